"""Outcomes: what everybody is paid if each holding takes what claims most, and papers that show it."""

from soldwhole.chosen import chosen_curves, free_choices
from soldwhole.curves import rose_to
from soldwhole.forms import are_amounts, are_choices
from soldwhole.fractions import ZERO, greatest_of, total
from soldwhole.nets import Net
from soldwhole.onefirm import pays_at
from soldwhole.rows import has_of
from soldwhole.signs import claimed, told
from soldwhole.webs import check_clear, firm_names


def outcome(web, amounts):
    """The tuple (levels, payments) that comes if each holding has the GREATEST curve of its options."""
    check_clear(web)
    return most_row(Net(web), amounts)


def most_row(net, amounts):
    """The same of a CLEAR web that is made ready."""
    return net.told_row(amounts, free_choices(net.firms))


def claims_at(web, levels):
    """The dict from firms to tuples: for each person's holding the list of what its options claim, for firms' None."""
    firms = firm_names(web)
    return {
        name: tuple([
            None if holder in firms else [claimed(web, levels, name, index, option) for option in range(len(options))]
            for index, (holder, options) in enumerate(holdings)
        ])
        for name, _, holdings in web
    }


def most_choices(web, amounts):
    """The CHOICES of the first options that claim most at the levels of the outcome."""
    levels, _ = outcome(web, amounts)
    return choices_most_at(web, levels)


def choices_most_at(web, levels):
    """The CHOICES of the first options that claim most at these levels."""
    claims = claims_at(web, levels)
    return {name: tuple([first_most(one) for one in claims[name]]) for name in claims}


def first_most(claims):
    """The index of the first one of the greatest claims, None of None."""
    return None if claims is None else claims.index(greatest_of(claims))


def is_most(web, amounts, choices):
    """Whether CHOICES are MOST."""
    levels, _ = told(web, amounts, choices)
    return are_most_at(web, levels, choices)


def are_most_at(web, levels, choices):
    """Whether no other option of a person's holding claims more than the chosen one at these levels."""
    claims = claims_at(web, levels)
    couples = [couple for name in claims for couple in zip(claims[name], choices[name])]
    return all([one is None or one[pick] == greatest_of(one) for one, pick in couples])


def main_paper(web, amounts):
    """The MAIN PAPER with the levels of the outcome and most_choices."""
    levels, _ = outcome(web, amounts)
    return (levels, choices_most_at(web, levels))


def is_main_paper(web, amounts, thing):
    """Whether it is a MAIN PAPER."""
    check_clear(web)
    if not isinstance(thing, tuple) or len(thing) != 2:
        return False
    levels, choices = thing
    if not are_amounts(web, levels) or not are_choices(web, choices) or not are_most_at(web, levels, choices):
        return False
    curves = chosen_curves(web, choices)
    pays = {name: pays_at(curves[name], levels[name]) for name in curves}
    has = has_of(web, amounts, pays)
    return all([has[name] == total(pays[name]) and is_least_level(curves[name], levels[name]) for name in curves])


def is_least_level(curves, level):
    """Whether these CURVES pay otherwise at each lesser level."""
    return level == ZERO or any([rose_to(one, level) != ZERO for one in curves])
