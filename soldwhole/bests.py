"""Bests: the most that persons can be paid together by other options of their own holdings.

If some holdings of theirs take the greatest curve of their options, persons are paid together the most that any of
these options bring them, and some of them do bring it: so one row of payments tells a bound for many choices at once,
and the way to the first ones that come to it is short.
"""

from soldwhole.chosen import copied, exchanged, open_holdings, options_many
from soldwhole.errors import TooMany
from soldwhole.fractions import ZERO, total
from soldwhole.signs import paid_to

MOST_CHOICES = 256


def open_places(web, persons):
    """The ascending list of the tuples (firm, index) of all holdings of persons that have more than one option."""
    return sorted([place for person in persons for place in open_holdings(web, person)])


def check_many(web, places):
    """Raise TooMany if there are more CHOICES by other options of the holdings at places than are gone through."""
    many = 1
    for firm, index in places:
        many = many * options_many(web, firm, index)
    if many > MOST_CHOICES:
        raise TooMany(MOST_CHOICES)


def paid_together(net, amounts, choices, persons):
    """What persons are PAID together; where an entry is None the holding takes the greatest curve of its options."""
    paid = paid_to(net.firms, net.told_row(amounts, choices)[1])
    return total([paid.get(person, ZERO) for person in persons])


def left_open(choices, places):
    """The choices with None for the holdings at places."""
    found = copied(choices)
    for firm, index in places:
        found = exchanged(found, firm, index, None)
    return found


def most_together(net, amounts, choices, places, persons):
    """The most that persons can be PAID together by other options of the holdings at places, their own."""
    return paid_together(net, amounts, left_open(choices, places), persons)


def first_paying(net, amounts, choices, places, persons, will_do):
    """The first CHOICES, those of the first one of places slowest, by which what persons are PAID together will do.

    most_together will do, and whatever is more than what will do.
    """
    found = left_open(choices, places)
    for firm, index in places:
        for option in range(options_many(net.firms, firm, index)):
            further = exchanged(found, firm, index, option)
            if will_do(paid_together(net, amounts, further, persons)):
                break
        found = further
    return found
