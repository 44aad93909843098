"""Amounts for pays: from when on, on a straight row of amounts, persons are paid so much."""

from soldwhole.courses import parts_by_amount
from soldwhole.curves import steepness
from soldwhole.fractions import ZERO, added, compared, greatest_of, lessened, over
from soldwhole.walks import line_by, pay_line, walk


def least_part(web, one, other, person, pay):
    """The least t at which a person is PAID at least so much, None if there is none."""
    return least_on(pay_line(web, walk(web, one, other), person), pay)


def least_for_all(web, one, other, pays):
    """The least t at which each one is PAID at least so much, None if there is none."""
    found, parts = walk(web, one, other), parts_by_amount(web)
    moments = [least_on(line_by(parts.get(person, {}), found), pay) for person, pay in pays.items()]
    if None in moments:
        return None
    # Nobody is PAID less later: so whoever comes to it last tells when all do.
    return greatest_of([ZERO] + moments)


def least_on(line, pay):
    """The least t at which a line of couples (t, pay) comes to so much, None if it never does."""
    if compared(line[0][1], pay) >= 0:
        return line[0][0]
    for low, high in zip(line, line[1:]):
        if compared(high[1], pay) >= 0:
            return added(low[0], over(lessened(pay, low[1]), steepness(low, high)))
    return None
