"""What the tests share: things made by a seeded source, and the plain meaning of claims over Python's fractions."""

import random
from fractions import Fraction

from soldwhole.curves import curve

ODD_VALUES = (
    None, True, False, 0, 1, -1, 10 ** 999, "", "a", "none", "due", "\n", " ", (), (()), [], {}, [1, 2], (1, 2), (2, 4),
    (True, 1), (1, True), (1, 0), (1, -1), ("none",), ["none"], ("none", ()), ("due",), ("due", True, (1, 1)),
    ("sum", ()), ("sum", (("none",),)), ("sum", [("none",), ("none",)]), {"a": (0, 1)}, {1: {}}, (((((),),),),),
    ((0, 1), (0, 1)), (((0, 1), (0, 1)),), ((((0, 1), (0, 1)),), (0, 1)), ("a", 0, ()), (("a", 0, ()),),
    ValueError("a"),
)


def source(seed):
    return random.Random(seed)


def told(one):
    """Python's fraction as a FRACTION."""
    one = Fraction(one)
    return (one.numerator, one.denominator)


def meant(one):
    """A FRACTION as Python's."""
    return Fraction(*one)


def some_fraction(chance, most=6, least=0):
    """A FRACTION from least to most."""
    while True:
        one = Fraction(chance.randint(0, most * 4), chance.choice((1, 1, 1, 2, 3, 4)))
        if least <= one <= most:
            return told(one)


def above_zero(chance, most=6):
    return some_fraction(chance, most, Fraction(1, 4))


def some_curve(chance, most_corners=5):
    """A CURVE with levels, pays and slopes that often meet those of others."""
    level, pay = Fraction(0), Fraction(0)
    corners = [((0, 1), (0, 1))]
    for _ in range(chance.randint(0, most_corners)):
        level += meant(above_zero(chance, 3))
        pay += chance.choice((0, 1, 1, 2, Fraction(1, 2))) * chance.randint(0, 2)
        corners.append((told(level), told(pay)))
    return curve(corners, told(chance.choice((0, 0, 1, 1, 2, Fraction(1, 2), Fraction(1, 3)))))


def meant_pay(one, level):
    """What a CURVE pays at a level, by the words of its definition."""
    corners = [(meant(at), meant(pay)) for at, pay in one[0]]
    level = Fraction(level)
    for (begin, low), (end, high) in zip(corners, corners[1:]):
        if begin <= level <= end:
            return low + (high - low) * (level - begin) / (end - begin)
    return corners[-1][1] + meant(one[1]) * (level - corners[-1][0])


def looked_at(curves, further=3):
    """Levels at, between and beyond the corners of CURVES."""
    levels = sorted({meant(corner[0]) for one in curves for corner in one[0]} | {Fraction(0)})
    between = [(low + high) / 2 for low, high in zip(levels, levels[1:])]
    return sorted(levels + between + [levels[-1] + step for step in range(1, further + 1)])


def some_claim(chance, ranks, depth=3):
    """A CLAIM on a firm with so many RANKS."""
    word = chance.choice(("none", "due", "due", "shares", "shares", "option", "capped", "capped", "sum", "sum", "sum"))
    if word == "due" and ranks:
        return ("due", chance.randrange(ranks), above_zero(chance))
    if word == "none":
        return ("none",)
    if word == "option":
        return ("option", above_zero(chance, 3), above_zero(chance, 3))
    if word == "capped" and depth:
        return ("capped", some_claim(chance, ranks, depth - 1), above_zero(chance, 8))
    if word == "sum" and depth:
        return ("sum", tuple(some_claim(chance, ranks, depth - 1) for _ in range(chance.randint(2, 4))))
    return ("shares", above_zero(chance, 3))


def claim_pay(ranks, claim, level):
    """What a CLAIM pays at a level, by the words of its definition."""
    word, parts = claim[0], claim[1:]
    if word == "none":
        return Fraction(0)
    if word == "due":
        return meant(parts[1]) * min(max(level - parts[0], 0), 1)
    if word == "shares":
        return meant(parts[0]) * max(level - ranks, 0)
    if word == "option":
        return meant(parts[0]) * max(level - ranks - meant(parts[1]), 0)
    if word == "capped":
        return min(claim_pay(ranks, parts[0], level), meant(parts[1]))
    return sum((claim_pay(ranks, part, level) for part in parts[0]), Fraction(0))


def nested(depth, claim=("shares", (1, 1)), word="capped"):
    """A CLAIM so deep: caps within caps, or sums within sums."""
    for _ in range(depth):
        claim = ("capped", claim, (5, 1)) if word == "capped" else ("sum", (("none",), claim))
    return claim


def exchanged_deep(chance, thing, others):
    """A tuple with one thing in it, however deep, exchanged for another one, left out, or put twice."""
    if not isinstance(thing, tuple) or not thing or chance.random() < 0.2:
        return chance.choice(others)
    place = chance.randrange(len(thing))
    ahead, behind = thing[:place], thing[place + 1:]
    kind = chance.random()
    if kind < 0.15:
        return ahead + behind
    if kind < 0.3:
        return ahead + (thing[place],) + thing[place:]
    if kind < 0.4:
        return list(thing)
    return ahead + (exchanged_deep(chance, thing[place], others),) + behind
