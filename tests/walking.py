"""What the tests of walks share: rows of amounts none of which falls, and what is meant at a part of the way."""

from fractions import Fraction

from making import claim_pay, meant, some_fraction, source, told
from soldwhole.chosen import most_curves
from soldwhole.onefirm import by_amount
from soldwhole.outcomes import outcome
from webmaking import (
    NAMES, PERSONS, cleared_web, meant_has, meant_paid, some_amounts, some_clear_web, some_firm, some_options,
)

TINY = Fraction(1, 10 ** 12)


def some_more(chance, web, one, most=40):
    """AMOUNTS of which none is less than in one."""
    kind = chance.random()
    if kind < 0.05:
        return dict(one)
    growing = [chance.choice(list(one))] if kind < 0.3 else list(one)
    return {name: told(meant(one[name]) + meant(chance.choice(((0, 1), some_fraction(chance, 8),
                                                             some_fraction(chance, most), (most, 1)))))
            if name in growing else one[name] for name in one}


def some_rich_web(chance, most_firms, most_holdings):
    """A CLEAR WEB of which each firm has a paper or two more with options, for persons and for later firms."""
    web = []
    names = NAMES[:chance.randint(1, most_firms)]
    for place, name in enumerate(names):
        _, ranks, holdings = some_firm(chance, name, names, most_holdings, 0.5)
        holder = chance.choice([*names[place + 1:], *PERSONS])
        holdings += ((holder, some_options(chance, ranks, chance.randint(2, 3), 0.9)),
                     (chance.choice(PERSONS), (("capped", ("shares", (1, 1)), some_fraction(chance, 3, 1)),)))
        web.append((name, ranks, holdings))
    return cleared_web(chance, tuple(web))


def drawn(seed, many, most_firms=3, most_holdings=3):
    """CLEAR WEBS with two AMOUNTS, the second ones nowhere less."""
    chance = source(seed)
    for _ in range(many):
        web = chance.choice((some_clear_web, some_rich_web, some_rich_web))(chance, most_firms, most_holdings)
        one = {name: (0, 1) for name, _, _ in web} if chance.random() < 0.6 else some_amounts(chance, web, 6)
        yield chance, web, one, some_more(chance, web, one)


def amounts_at(one, other, t):
    """The AMOUNTS AT t, a fraction of Python's."""
    return {name: told((1 - t) * meant(one[name]) + t * meant(other[name])) for name in one}


def meant_had(web, one, other, t):
    """What each firm HAS in the outcome of the AMOUNTS AT t."""
    amounts = amounts_at(one, other, t)
    return meant_has(web, amounts, outcome(web, amounts)[1])


def meant_pays(web, one, other, t):
    """What each person is PAID in the outcome of the AMOUNTS AT t."""
    return meant_paid(web, outcome(web, amounts_at(one, other, t))[1])


def meant_most(web, one, other, t):
    """For each holding the indexes of the options that claim most at the TOLD level in the outcome."""
    levels, _ = outcome(web, amounts_at(one, other, t))
    found = {}
    for name, ranks, holdings in web:
        claims = [[claim_pay(ranks, option, meant(levels[name])) for option in options] for _, options in holdings]
        found[name] = tuple(tuple(at for at, pay in enumerate(row) if pay == max(row)) for row in claims)
    return found


def corners_of(web):
    """For each firm all corners of its CURVES BY AMOUNT, those at 0 left out."""
    return {name: {meant(level) for one in by_amount(curves) for level, _ in one[0][1:]}
            for name, curves in most_curves(web).items()}


def looked_on(found, more=()):
    """Parts of the way at all t that are found, close to them, and between, as fractions of Python's."""
    moments = sorted({meant(t) for t in found} | {Fraction(0), Fraction(1)} | set(more))
    steps = [low + (high - low) * part for low, high in zip(moments, moments[1:])
             for part in (TINY, Fraction(1, 3), 1 - TINY)]
    return sorted(moments + steps)
