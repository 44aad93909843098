"""Webs made by a seeded source, and the plain meaning of what is told of them, over Python's fractions and floats."""

import bisect
import itertools
from fractions import Fraction

from making import above_zero, claim_pay, meant, some_claim, some_fraction, told
from soldwhole.chosen import chosen_curves
from soldwhole.waterfalls import level_reached, paid_out

NAMES = ("asp", "bay", "cow", "doe", "elm", "fox")
PERSONS = ("ann", "bob", "cat")


def some_options(chance, ranks, many, dues):
    """So many CLAIMS, the first one often a due."""
    options = [some_claim(chance, ranks, 2) for _ in range(many)]
    if ranks and chance.random() < dues:
        options[0] = ("due", chance.randrange(ranks), above_zero(chance))
    return tuple(options)


def some_web(chance, most_firms=4, most_holdings=4, dues=0.5):
    """A FOUNDED WEB whose firms own one another."""
    names = NAMES[:chance.randint(1, most_firms)]
    return tuple(some_firm(chance, name, names, most_holdings, dues) for name in names)


def some_firm(chance, name, names, most_holdings, dues):
    ranks = chance.randint(0, 3)
    holdings = [(chance.choice(PERSONS), (("shares", above_zero(chance, 3)),))]
    for _ in range(chance.randint(0, most_holdings)):
        holder = chance.choice([other for other in names if other != name] + list(PERSONS))
        holdings.append((holder, some_options(chance, ranks, chance.choice((1, 1, 2, 3)), dues)))
    chance.shuffle(holdings)
    return (name, ranks, tuple(holdings))


def some_rings(chance):
    """A FOUNDED WEB whose firms owe one another, mostly dues alone: often there are several rows."""
    names = NAMES[:chance.randint(2, 5)]
    web = []
    for name in names:
        ranks = chance.randint(1, 3)
        holdings = [(chance.choice(PERSONS), (("shares", above_zero(chance, 3)),))]
        for _ in range(chance.randint(1, 3)):
            holder = chance.choice([other for other in names if other != name])
            holdings.append((holder, some_options(chance, ranks, chance.choice((1, 1, 2)), 0.9)))
        if chance.random() < 0.3:
            holdings.append((chance.choice(PERSONS), (("due", chance.randrange(ranks), above_zero(chance)),)))
        chance.shuffle(holdings)
        web.append((name, ranks, tuple(holdings)))
    return tuple(web)


def without_dues(claim):
    """The CLAIM with shares in the stead of its dues."""
    if claim[0] == "due":
        return ("shares", claim[2])
    if claim[0] == "capped":
        return ("capped", without_dues(claim[1]), claim[2])
    return ("sum", tuple(without_dues(part) for part in claim[1])) if claim[0] == "sum" else claim


def cleared_web(chance, web):
    """A WEB with the dues of firms kept only where they go one way, along an order that is drawn."""
    order = [firm[0] for firm in web]
    chance.shuffle(order)
    places = {name: place for place, name in enumerate(order)}
    return tuple(
        (name, ranks, tuple(
            (holder, tuple(map(without_dues, options)) if places.get(holder, 99) < places[name] else options)
            for holder, options in holdings
        ))
        for name, ranks, holdings in web
    )


def some_clear_web(chance, most_firms=3, most_holdings=4):
    return cleared_web(chance, some_web(chance, most_firms, most_holdings))


def some_amounts(chance, web, most=12):
    return {name: chance.choice(((0, 1), some_fraction(chance, 3), some_fraction(chance, most))) for name, _, _ in web}


def some_choices(chance, web):
    return chance.choice(all_choices(web)) if choices_many(web) <= 200 else {
        firm[0]: tuple(chance.choice(entries) for entries in entries_of(web, firm)) for firm in web
    }


def entries_of(web, firm):
    """For each holding of a FIRM the list of what CHOICES may have there."""
    firms = [other[0] for other in web]
    return [[None] if holder in firms else list(range(len(options))) for holder, options in firm[2]]


def choices_many(web):
    many = 1
    for firm in web:
        for entries in entries_of(web, firm):
            many *= len(entries)
    return many


def all_choices(web):
    """The list of all CHOICES, by their options' indexes, firms and holdings in order."""
    found = []
    for picks in itertools.product(*[entries for firm in web for entries in entries_of(web, firm)]):
        rest = list(picks)
        one = {}
        for name, _, holdings in web:
            one[name], rest = tuple(rest[:len(holdings)]), rest[len(holdings):]
        found.append(one)
    return found


def holding_pay(ranks, options, pick, level):
    """What a holding pays at a level, None as a pick being what a firm's has."""
    chosen = options if pick is None else (options[pick],)
    return max(claim_pay(ranks, claim, level) for claim in chosen)


def meant_has(web, amounts, row):
    """What each firm HAS, by the words of the definition."""
    return {
        name: meant(amounts[name]) + sum(
            meant(pay) for other, _, holdings in web for (holder, _), pay in zip(holdings, row[other]) if holder == name
        )
        for name, _, _ in web
    }


def papers_of(firm, picks):
    """The PAPERS of a FIRM by its entry of CHOICES."""
    return tuple(options if pick is None else (options[pick],) for (_, options), pick in zip(firm[2], picks))


def is_meant_right(web, amounts, choices, row):
    """Whether PAYMENTS are RIGHT: poured out step by step, without a curve."""
    has = meant_has(web, amounts, row)
    return all(
        paid_out(firm[1], papers_of(firm, choices[firm[0]]), told(has[firm[0]])) == row[firm[0]]
        and sum(map(meant, row[firm[0]])) == has[firm[0]]
        for firm in web
    )


def meant_levels(web, choices, row):
    """The least levels at which each firm pays so much, by the steps of its waterfall."""
    return {
        firm[0]: level_reached(firm[1], papers_of(firm, choices[firm[0]]), told(sum(map(meant, row[firm[0]]))))
        for firm in web
    }


def meant_paid(web, row):
    """What each person is PAID."""
    found = {}
    for name, _, holdings in web:
        for (holder, _), pay in zip(holdings, row[name]):
            found[holder] = found.get(holder, Fraction(0)) + meant(pay)
    return {holder: found[holder] for holder in sorted(found) if holder not in [firm[0] for firm in web]}


class Near:
    """A CURVE over floats."""

    def __init__(self, one):
        self.levels = [float(meant(level)) for level, _ in one[0]]
        self.pays = [float(meant(pay)) for _, pay in one[0]]
        self.slope = float(meant(one[1]))

    def at(self, level):
        place = bisect.bisect_right(self.levels, level) - 1
        begin, pay = self.levels[place], self.pays[place]
        if place + 1 == len(self.levels):
            return pay + self.slope * (level - begin)
        return pay + (self.pays[place + 1] - pay) * (level - begin) / (self.levels[place + 1] - begin)


def near_out(curves, much):
    """About what CURVES over floats are paid of an amount."""
    low, high = 0.0, 1.0
    while sum(one.at(high) for one in curves) < much:
        high *= 2
    for _ in range(60):
        middle = (low + high) / 2
        if sum(one.at(middle) for one in curves) < much:
            low = middle
        else:
            high = middle
    return [one.at(high) for one in curves]


def near_has(web, amounts, choices, begin, most_rounds=4000):
    """About what all come to have, round by round, if each one has begin at first."""
    curves = {name: [Near(one) for one in row] for name, row in chosen_curves(web, choices).items()}
    has = {name: begin for name, _, _ in web}
    for _ in range(most_rounds):
        ahead = {name: float(meant(amounts[name])) for name in has}
        for name, _, holdings in web:
            for (holder, _), pay in zip(holdings, near_out(curves[name], has[name])):
                if holder in ahead:
                    ahead[holder] += pay
        moved = max([abs(ahead[name] - has[name]) for name in has], default=0)
        has = ahead
        if moved < 1e-10:
            break
    return has
