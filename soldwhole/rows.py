"""Rows of payments: what all firms pay, so that each one pays out just what it has."""

from soldwhole.chosen import chosen_curves
from soldwhole.flows import lowered, raised
from soldwhole.forms import are_payments
from soldwhole.fractions import added, total
from soldwhole.levelpapers import are_paid
from soldwhole.nets import Net
from soldwhole.onefirm import level_of
from soldwhole.webs import check_founded


def has_of(web, amounts, payments):
    """The dict from the names of firms to what each one HAS."""
    found = {name: amounts[name] for name, _, _ in web}
    for name, _, holdings in web:
        for (holder, _), pay in zip(holdings, payments[name]):
            if holder in found:
                found[holder] = added(found[holder], pay)
    return found


def levels_of(web, choices, payments):
    """The dict from the names of firms to the least levels at which the CHOSEN curves pay these PAYMENTS."""
    curves = chosen_curves(web, choices)
    return {name: level_of(curves[name], total(payments[name])) for name, _, _ in web}


def are_right(web, amounts, choices, thing):
    """Whether it is RIGHT PAYMENTS."""
    if not are_payments(web, thing):
        return False
    has, curves = has_of(web, amounts, thing), chosen_curves(web, choices)
    return all([are_paid(curves[name], has[name], thing[name]) for name, _, _ in web])


def least_row(web, amounts, choices):
    """The RIGHT PAYMENTS with the least entries."""
    check_founded(web)
    return Net(web).row_led(amounts, choices, lowered)[1]


def greatest_row(web, amounts, choices):
    """The RIGHT PAYMENTS with the greatest entries."""
    check_founded(web)
    return Net(web).row_led(amounts, choices, raised)[1]
