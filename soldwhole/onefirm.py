"""One firm: what each of its papers is paid of an amount, all of them at one level."""

from soldwhole.curvebacks import by_pay, level_for
from soldwhole.curves import added_up, nothing, pay_at
from soldwhole.fractions import ZERO, ascending


def pays_at(curves, level):
    """The tuple of what each CURVE pays at a LEVEL."""
    return tuple([pay_at(one, level) for one in curves])


def level_of(curves, amount):
    """The least LEVEL at which the CURVES together pay the amount, None if there is none."""
    return level_for(added_up(curves), amount)


def payments(curves, amount):
    """The tuple of what each CURVE pays at that LEVEL, None if there is none."""
    level = level_of(curves, amount)
    return None if level is None else pays_at(curves, level)


def by_amount(curves):
    """The tuple of the CURVES that tell for each of them, at each amount, what it is paid."""
    whole = added_up(curves)
    return tuple([by_pay(whole, one) for one in curves])


def amount_for(curves, index, pay):
    """The least amount at which the CURVE with this index is paid at least so much, None if it never is."""
    # Just below the least level of a pay the curve pays less, and so do all together: no lesser amount will do.
    level = level_for(curves[index], pay)
    return None if level is None else pay_at(added_up(curves), level)


def order_of(curves):
    """The list of the indexes of all CURVES that ever pay something, in the order in which they begin to."""
    # Above the level at which one begins all together rise: so these levels stand in the order of the amounts.
    begins = {index: beginning(one) for index, one in enumerate(curves) if one != nothing()}
    levels = ascending(list(begins.values()))
    places = {level: place for place, level in enumerate(levels)}
    return sorted(list(begins), key=lambda index: places[begins[index]])


def beginning(curve):
    """The greatest LEVEL at which a CURVE that ever pays something pays nothing."""
    return [level for level, pay in curve[0] if pay == ZERO][-1]
