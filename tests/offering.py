"""Offers and classes made by a seeded source, and what is meant by votes for them."""

from fractions import Fraction

from making import meant, source, told
from soldwhole.outcomes import outcome
from soldwhole.webs import persons_of
from walking import some_rich_web
from webmaking import meant_paid, some_amounts, some_clear_web

VOTERS = ("ann", "bob", "cat", "eve", "zoe")


def some_class(chance, voters=VOTERS):
    """A CLASS with votes of some of these; eve and zoe have no holding."""
    names = sorted(chance.sample(voters, chance.randint(0, len(voters))))
    needed = chance.choice(((0, 1), (1, 1), (1, 2), (1, 2), (2, 3), (3, 4), (1, 9)))
    return (tuple((name, chance.choice((1, 1, 2, 3, 10))) for name in names), needed)


def some_classes(chance, voters=VOTERS):
    return tuple(some_class(chance, voters) for _ in range(chance.randint(0, 3)))


def drawn(seed, many, most_firms=3):
    """CLEAR WEBS, two AMOUNTS, and CLASSES."""
    chance = source(seed)
    for _ in range(many):
        web = chance.choice((some_clear_web, some_rich_web))(chance, most_firms, 3)
        yield chance, web, some_amounts(chance, web, 20), some_amounts(chance, web, 25), some_classes(chance)


def meant_gains(web, one, other):
    """What each person is PAID more by other."""
    before, behind = (meant_paid(web, outcome(web, amounts)[1]) for amounts in (one, other))
    return {person: behind[person] - before[person] for person in before}


def is_meant_carried(classes, persons):
    """Whether each CLASS is FOR it, by the words of the promise."""
    return all(sum(many for person, many in votes if person in persons) >= meant(needed) * sum(many for _, many in votes)
               for votes, needed in classes)


def meant_willing(web, one, other, classes):
    """All voters who are PAID no less by other."""
    changes = meant_gains(web, one, other)
    return {person for votes, _ in classes for person, _ in votes if changes.get(person, 0) >= 0}


def many_losers(many):
    """A WEB of two firms, AMOUNTS one and other, by which so many persons lose, each another sum, and one gains."""
    names = [first + second for first in "abcd" for second in "klmnop"][:many]
    losing = ("asp", 0, tuple((name, (("shares", (place + 1, place % 3 + 1)),)) for place, name in enumerate(names)))
    gaining = ("bay", 0, (("zoe", (("shares", (1, 1)),)),))
    one, other = {"asp": (900, 7), "bay": (1, 1)}, {"asp": (100, 3), "bay": (1000, 1)}
    assert len(persons_of((losing, gaining))) == many + 1
    return (losing, gaining), one, other, names


def part_of(one, part):
    """A part of a fraction of Python's, as a FRACTION."""
    return told(Fraction(one) * Fraction(part))
