"""Rounds made by a seeded source, and the plain meaning of their worths, over Python's fractions."""

from fractions import Fraction

from making import above_zero, meant, some_fraction, source, told
from soldwhole.rounds import worth_at


def some_discount(chance):
    return chance.choice((None, (0, 1), (1, 5), (1, 4), (2, 3)))


def some_thing(chance):
    word = chance.choice(("shares", "note", "note", "note", "kept", "weighed"))
    if word == "shares":
        return ("shares", above_zero(chance, 9))
    if word == "note":
        return ("note", above_zero(chance, 9), chance.choice((None, above_zero(chance))), some_discount(chance))
    if word == "kept":
        return ("kept", above_zero(chance, 5), above_zero(chance))
    return ("weighed", above_zero(chance, 5), above_zero(chance), above_zero(chance, 9))


def some_round(chance, most_things=5):
    """A ROUND whose agreed worth lies near what all is worth at some price, or at 0, or below."""
    things = [("shares", above_zero(chance, 9))] + [some_thing(chance) for _ in range(chance.randint(0, most_things))]
    chance.shuffle(things)
    pool = (chance.choice(((0, 1), some_fraction(chance, 9))), chance.choice(((0, 1), (1, 10), (1, 3), (9, 10))))
    deal = ((1, 1), chance.choice(((0, 1), some_fraction(chance, 20))), tuple(things), pool)
    worth = sum(meant_worths(deal, meant(chance.choice(((0, 1), some_fraction(chance, 8)))))) + chance.choice((0, 0, 1, 5, -1))
    return (told(max(worth, Fraction(1, 4))), *deal[1:])


def meant_worth(thing, price, money):
    """The WORTH of a THING, by the words of the promise."""
    word = thing[0]
    if word == "shares":
        return price * meant(thing[1])
    if word == "note":
        amount, cap, discount = thing[1:]
        worths = [meant(amount) / (1 - (0 if discount is None else meant(discount)))]
        if cap is not None:
            worths.append(price * meant(amount) / meant(cap))
        return max(worths)
    count, old = meant(thing[1]), meant(thing[2])
    if word == "kept":
        return count * max(price, old)
    then = meant(thing[3])
    return price * count if price >= old else count * old * (then * price + money) / (then * old + money)


def meant_worths(deal, price):
    """The list of all WORTHS at a price, that of the pool behind them."""
    _, money, things, (count, part) = deal
    worths = [meant_worth(thing, price, meant(money)) for thing in things]
    pool = max(price * meant(count), (meant(part) * sum(worths) + meant(part) * meant(money)) / (1 - meant(part)))
    return [*worths, pool]


def meant_shares(thing, price, money):
    """How many shares a THING comes to at a price above 0, as it was agreed, with the price in the nether part."""
    word = thing[0]
    if word == "shares":
        return meant(thing[1])
    if word == "note":
        amount, cap, discount = thing[1:]
        less = price * (1 - (0 if discount is None else meant(discount)))
        return meant(amount) / (less if cap is None else min(less, meant(cap)))
    count, old = meant(thing[1]), meant(thing[2])
    if word == "kept":
        return count if price >= old else count * old / price
    then = meant(thing[3])
    # The old price is put right by weights: then and what the money buys at old, to then and what it buys at price.
    return count if price >= old else count * old / (old * (then + money / old) / (then + money / price))


def many_things(seed, many, digits):
    """A ROUND of so many THINGS, of FRACTIONS of so many digits, with a price."""
    chance = source(seed)

    def some():
        if digits < 3:
            return told(Fraction(chance.randint(1, 999), chance.choice((1, 2, 3, 5))))
        return told(Fraction(chance.randint(1, 10 ** digits - 1), chance.randint(10 ** (digits - 1), 10 ** digits - 1)))

    kinds = (lambda: ("shares", some()), lambda: ("note", some(), some(), (1, 5)), lambda: ("kept", some(), some()),
             lambda: ("note", some(), some(), None), lambda: ("weighed", some(), some(), some()))
    things = tuple(kinds[place % 5]() for place in range(many))
    deal = ((1, 1), some(), things, (some(), (1, 10)))
    return (told(meant(worth_at(deal, (0, 1))) * 2), *deal[1:])
