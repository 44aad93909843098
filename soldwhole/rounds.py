"""Rounds of new money: what all that is there is worth at a price, and at which one it is worth what was agreed."""

from soldwhole.claims import risen_from
from soldwhole.curves import added_up, drawn, greater, levels_of, nothing, pay_at, rises_at, scaled
from soldwhole.errors import NoPrice
from soldwhole.forms import is_above_zero, is_amount
from soldwhole.fractions import ONE, ZERO, added, compared, greatest_of, least_of, lessened, over, times, total

# What stands behind the first word of a thing.
THING_PARTS = {
    "shares": ("above",),
    "note": ("above", "cap", "discount"),
    "kept": ("above", "above"),
    "weighed": ("above", "above", "above"),
}


def is_round(thing):
    """Whether it is a ROUND."""
    if not isinstance(thing, tuple) or len(thing) != 4:
        return False
    worth, money, things, pool = thing
    if not is_above_zero(worth) or not is_amount(money) or not is_pool(pool):
        return False
    if not isinstance(things, tuple) or not all([is_thing(one) for one in things]):
        return False
    return any([one[0] == "shares" for one in things])


def is_pool(thing):
    """Whether it is a couple of a count from 0 on and a part from 0 on and below 1."""
    return isinstance(thing, tuple) and len(thing) == 2 and is_amount(thing[0]) and is_below_one(thing[1])


def is_below_one(thing):
    """Whether it is a FRACTION from 0 on and below 1."""
    return is_amount(thing) and thing[0] < thing[1]


def is_thing(thing):
    """Whether it is a THING."""
    if not isinstance(thing, tuple) or len(thing) == 0 or not isinstance(thing[0], str):
        return False
    if thing[0] not in THING_PARTS:
        return False
    kinds = THING_PARTS[thing[0]]
    return len(thing) == 1 + len(kinds) and all([is_part(kind, part) for kind, part in zip(kinds, thing[1:])])


def is_part(kind, thing):
    """Whether it is what stands in a THING under this word."""
    if kind == "above":
        return is_above_zero(thing)
    if thing is None:
        return True
    return is_above_zero(thing) if kind == "cap" else is_below_one(thing)


def rest_of(part):
    """What is left of 1, None as a part being nothing."""
    return ONE if part is None else lessened(ONE, part)


def thing_worth(thing, price, money):
    """The WORTH of a THING at a price."""
    word, count = thing[0], thing[1]
    if word == "note":
        return note_worth(thing, price)
    if word == "shares" or compared(price, thing[2]) >= 0:
        return times(price, count)
    bought = times(count, thing[2])
    if word == "kept":
        return bought
    _, _, old, then = thing
    return over(times(bought, added(times(then, price), money)), added(times(then, old), money))


def note_worth(note, price):
    """The WORTH of a note at a price."""
    _, amount, cap, discount = note
    least = over(amount, rest_of(discount))
    return least if cap is None else greatest_of((least, over(times(price, amount), cap)))


def pool_worth(deal, price, worth):
    """The WORTH of the pool at a price, all THINGS being worth so much."""
    _, money, _, (count, part) = deal
    return greatest_of((times(price, count), over(times(part, added(worth, money)), rest_of(part))))


def worths_at(deal, price):
    """The tuple of the WORTHS of all THINGS, and that of the pool behind them."""
    worths = [thing_worth(thing, price, deal[1]) for thing in deal[2]]
    return (*worths, pool_worth(deal, price, total(worths)))


def worth_at(deal, price):
    """The sum of all WORTHS at a price."""
    return total(worths_at(deal, price))


def bent(level, before, behind):
    """The CURVE that rises by one slope up to a level above 0, and by another one from there on."""
    return drawn([(ZERO, ZERO), (level, times(level, before))], behind)


def shares_curve(count):
    """The CURVE of what so many shares are worth."""
    return drawn([(ZERO, ZERO)], count)


def thing_curve(thing, money):
    """The CURVE of a THING's WORTH at each price less that at the price 0."""
    if thing[0] == "shares":
        return shares_curve(thing[1])
    if thing[0] == "note":
        _, amount, cap, discount = thing
        return nothing() if cap is None else bent(over(cap, rest_of(discount)), ZERO, over(amount, cap))
    _, count, old = thing[:3]
    if thing[0] == "kept":
        return bent(old, ZERO, count)
    counted = times(thing[3], old)
    return bent(old, times(count, over(counted, added(counted, money))), count)


def pool_curve(deal, things):
    """The CURVE of the pool's WORTH less that at the price 0; things is the CURVE of all THINGS together."""
    _, _, _, (count, part) = deal
    filled = scaled(things, over(part, rest_of(part)))
    if count == ZERO:
        return filled
    # What it has at the price 0 is what fills it up: only from where its shares are worth this they may be worth more.
    begin = over(worths_at(deal, ZERO)[-1], count)
    return greater(filled, risen_from(begin, [], count))


def worth_curve(deal):
    """The CURVE that tells at each price worth_at there less worth_at at the price 0."""
    things = added_up([thing_curve(thing, deal[1]) for thing in deal[2]])
    return added_up([things, pool_curve(deal, things)])


def price_of(deal):
    """The PRICE of a ROUND."""
    worth, money, things, (count, part) = deal
    if compared(worth, worth_at(deal, ZERO)) <= 0:
        raise NoPrice()
    curves = [thing_curve(thing, money) for thing in things]
    begin = total([thing_worth(thing, ZERO, money) for thing in things])
    # All is worth what it would be with the greater one of two pools: so the lesser one of two prices is its price.
    filled = lessened(times(worth, rest_of(part)), times(part, money))
    prices = [price_for(curves, lessened(filled, begin))]
    if count != ZERO:
        prices.append(price_for([*curves, shares_curve(count)], lessened(worth, begin)))
    return least_of(prices)


def price_for(curves, lacking):
    """The price at which all CURVES together come to what is lacking, which is above 0, one of them being of shares."""
    # Their sum is not made: of many things with unlike fractions each corner of it would have very great numbers.
    prices = levels_of(curves)
    low, high = 0, len(prices)
    while high - low > 1:
        middle = (low + high) // 2
        if compared(total([pay_at(one, prices[middle]) for one in curves]), lacking) < 0:
            low = middle
        else:
            high = middle
    begin = prices[low]
    left = lessened(lacking, total([pay_at(one, begin) for one in curves]))
    return added(begin, over(left, total([rises_at(one, begin) for one in curves])))
