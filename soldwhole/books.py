"""Books: a web with amounts, a main paper of them and what all persons are paid by it."""

from soldwhole.chosen import chosen_curves
from soldwhole.forms import are_amounts, is_fraction, is_web
from soldwhole.fractions import ZERO
from soldwhole.onefirm import pays_at
from soldwhole.outcomes import is_main_paper, main_paper
from soldwhole.signs import paid_to
from soldwhole.webs import is_clear


def paid_by_paper(web, paper):
    """The dict from all PERSONS to what each one is PAID by a MAIN PAPER."""
    levels, choices = paper
    curves = chosen_curves(web, choices)
    return paid_to(web, {name: pays_at(curves[name], levels[name]) for name in curves})


def book_of(web, amounts):
    """The BOOK with main_paper."""
    paper = main_paper(web, amounts)
    return (web, {name: amounts[name] for name in paper[0]}, paper, paid_by_paper(web, paper))


def is_book(thing):
    """Whether it is a BOOK."""
    if not isinstance(thing, tuple) or len(thing) != 4:
        return False
    web, amounts, paper, paid = thing
    if not is_web(web) or not are_amounts(web, amounts) or not is_clear(web):
        return False
    if not is_main_paper(web, amounts, paper) or not isinstance(paid, dict):
        return False
    # What stands for true is equal to 1: so it is asked whether all are FRACTIONS, too.
    return all([is_fraction(pay) for pay in paid.values()]) and paid == paid_by_paper(web, paper)


def unlike_in(book, other):
    """The dict from all PERSONS that are PAID unlike in two BOOKS to the tuple of both pays."""
    before, behind = book[3], other[3]
    return unlike_pays(before, behind)


def unlike_pays(before, behind):
    """The dict from all persons with unlike pays to the tuple of both, 0 for whom one does not name."""
    couples = {
        person: (before.get(person, ZERO), behind.get(person, ZERO)) for person in sorted(set([*before, *behind]))
    }
    return {person: (low, high) for person, (low, high) in couples.items() if low != high}
