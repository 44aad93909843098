"""Papers of rounds: the price with all worths by it, so that whoever looks sees that it is the one."""

from soldwhole.errors import NoPrice
from soldwhole.forms import is_amount, is_fraction
from soldwhole.fractions import ZERO, added, compared, over, total
from soldwhole.rounds import price_of, worths_at


def counts_at(deal, price):
    """The tuple of how many shares each THING, the pool and the new money come to at a price."""
    return tuple([over(worth, price) for worth in (*worths_at(deal, price), deal[1])])


def parts_of(deal):
    """The tuple of what part of the whole each THING, the pool and the new money have at the PRICE."""
    whole = added(deal[0], deal[1])
    return tuple([over(worth, whole) for worth in (*worths_at(deal, price_of(deal)), deal[1])])


def things_behind(deal):
    """The tuple of shares for each of the counts at the PRICE that is above 0, but not for the pool."""
    counts = counts_at(deal, price_of(deal))
    return tuple([("shares", count) for count in (*counts[:-2], counts[-1]) if count != ZERO])


def round_paper(deal):
    """The ROUND PAPER: of the price 0 it shows that there is no PRICE."""
    price = price_or_nought(deal)
    return (price, worths_at(deal, price))


def price_or_nought(deal):
    """The PRICE, 0 if there is none."""
    try:
        return price_of(deal)
    except NoPrice:
        return ZERO


def is_round_paper(deal, thing):
    """Whether it is the ROUND PAPER."""
    if not isinstance(thing, tuple) or len(thing) != 2:
        return False
    price, worths = thing
    if not is_amount(price) or not isinstance(worths, tuple) or not all([is_fraction(one) for one in worths]):
        return False
    if worths != worths_at(deal, price):
        return False
    above = compared(total(worths), deal[0])
    return above >= 0 if price == ZERO else above == 0
