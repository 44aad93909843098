"""Webs as great as the document's bounds: 6 firms, 30 holdings, 6 options each, claims of 60 claims, six deep."""

import contextlib
import time
from fractions import Fraction

from making import source, told
from webmaking import NAMES, cleared_web

PERSONS = ("ann", "bob", "cat", "dan")


@contextlib.contextmanager
def within(test, seconds=10):
    """What stands in it must not take longer; it takes a small part of this on any machine of today."""
    begun = time.monotonic()
    yield
    test.assertLess(time.monotonic() - begun, seconds)


def great_fraction(chance):
    return told(Fraction(chance.randint(1, 97), chance.choice((1, 2, 3, 5, 7, 11, 13))))


def plain_claim(chance, ranks):
    word = chance.choice(("due", "due", "shares", "option"))
    if word == "due":
        return ("due", chance.randrange(ranks), great_fraction(chance))
    if word == "option":
        return ("option", great_fraction(chance), great_fraction(chance))
    return ("shares", great_fraction(chance))


def great_claim(chance, ranks, depth=6, most=60):
    """A CLAIM of at most so many CLAIMS, so deep."""
    if depth == 1 or most < 3:
        return plain_claim(chance, ranks)
    if chance.random() < 0.3:
        return ("capped", great_claim(chance, ranks, depth - 1, most - 1), great_fraction(chance))
    many = chance.randint(2, min(4, most - 1))
    return ("sum", tuple(great_claim(chance, ranks, depth - 1, (most - 1) // many) for _ in range(many)))


def great_web(seed, clear=True, firms_part=0.7):
    """A WEB of 6 FIRMS with 5 HOLDINGS each."""
    chance = source(seed)
    web = []
    for name in NAMES:
        holdings = [("ann", (("shares", (chance.randint(1, 3), 1)),))]
        for _ in range(4):
            others = [other for other in NAMES if other != name]
            holder = chance.choice(others if chance.random() < firms_part else PERSONS)
            holdings.append((holder, tuple(great_claim(chance, 6) for _ in range(6))))
        web.append((name, 6, tuple(holdings)))
    return cleared_web(chance, tuple(web)) if clear else tuple(web)


def great_amounts(seed, most=500):
    chance = source(seed)
    return {name: told(Fraction(chance.randint(0, most), chance.choice((1, 2, 3)))) for name in NAMES}


def with_open(web, persons, many, options_many):
    """The WEB with just so many open holdings of persons, with so many options each; persons hold them in turn."""
    firms = [firm[0] for firm in web]
    seen, found = 0, []
    for name, ranks, holdings in web:
        row = []
        for holder, options in holdings:
            if holder not in firms and len(options) > 1:
                holder = persons[seen % len(persons)]
                seen += 1
                options = options[:options_many if seen <= many else 1]
            row.append((holder, options))
        found.append((name, ranks, tuple(row)))
    return tuple(found)
