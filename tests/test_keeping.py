"""[3] what is passed stays as it was, whatever order its keys stand in; what is told is new, its keys ascending."""

import copy
import unittest

from making import source
from offering import some_classes
from rounding import some_round
from soldwhole.amountsfor import least_for_all, least_part
from soldwhole.books import book_of, is_book, unlike_in
from soldwhole.calm import bettered_by, calm_ones, is_calm
from soldwhole.chosen import chosen_curves, choices_of, exchanged, first_choices, most_curves, open_holdings
from soldwhole.compared import alike, better, first_unlike
from soldwhole.errors import NoPrice
from soldwhole.groups import best_for, group_change
from soldwhole.offers import gainers, gains, is_carried, is_carried_alone, is_class, losers, pays, votes_for
from soldwhole.outcomes import is_main_paper, is_most, main_paper, most_choices, outcome
from soldwhole.roundpapers import counts_at, is_round_paper, parts_of as parts_of_round, round_paper, things_behind
from soldwhole.rounds import is_round, price_of, worth_at, worth_curve, worths_at
from soldwhole.rows import are_right, greatest_row, has_of, least_row, levels_of
from soldwhole.sidepay import bearers, is_side_pay, least_side_pay, side_sum
from soldwhole.signs import change_of, claimed, paid_to, sign_of, told
from soldwhole.solving import solved
from soldwhole.switches import ended, gainful, led_on
from soldwhole.walks import changes, had_on, is_walk, most_on, paid_on, pay_line, walk
from soldwhole.webpapers import is_parting_lot, parting_lot
from soldwhole.webs import circle_of, dues_order, first_unfounded, is_circle, is_dues_order, persons_of
from test_rows import NO_AMOUNTS, RING, RING_CHOICES
from walking import some_more
from webmaking import choices_many, some_amounts, some_choices, some_clear_web


def turned(thing):
    """A copy of the same value, the keys of all its dicts in the other order."""
    if isinstance(thing, dict):
        return {key: turned(thing[key]) for key in reversed(list(thing))}
    if isinstance(thing, (list, tuple)):
        return type(thing)(turned(part) for part in thing)
    return copy.deepcopy(thing)


def shown(thing):
    """A text of a value in which the order of keys and the kinds of all parts are seen."""
    return repr(thing)


def parts_of(thing):
    """All lists and dicts in a value, itself too."""
    found = [thing] if isinstance(thing, (list, dict)) else []
    if isinstance(thing, dict):
        thing = list(thing.values())
    if isinstance(thing, (list, tuple)):
        for part in thing:
            found.extend(parts_of(part))
    return found


def calls_of(web, amounts, choices, others, person):
    """The calls of all functions that are told of webs, with arguments that suit this one."""
    row = least_row(web, amounts, choices)
    levels = levels_of(web, choices, row)
    lists = [[(2, 1), (1, 3)], [(1, 1), (1, 1)]]
    yield from (
        (persons_of, web), (first_unfounded, web), (circle_of, web), (dues_order, web), (is_circle, web, ["asp"]),
        (is_dues_order, web, dues_order(web)), (chosen_curves, web, choices), (most_curves, web),
        (first_choices, web), (open_holdings, web, person), (choices_of, web, choices, person),
        (solved, lists, [(1, 1), (2, 1)]), (has_of, web, amounts, row), (levels_of, web, choices, row),
        (are_right, web, amounts, choices, row), (least_row, web, amounts, choices),
        (greatest_row, web, amounts, choices), (parting_lot, web, row, row),
        (is_parting_lot, web, row, row, [web[0][0]]), (told, web, amounts, choices), (paid_to, web, row),
        (change_of, web, amounts, choices, others), (outcome, web, amounts), (most_choices, web, amounts),
        (is_most, web, amounts, choices), (main_paper, web, amounts),
        (is_main_paper, web, amounts, (levels, choices)), (is_main_paper, web, amounts, main_paper(web, amounts)),
        (bettered_by, web, amounts, choices, person), (is_calm, web, amounts, choices),
        (group_change, web, amounts, choices, others, (person,)), (best_for, web, amounts, choices, (person,)),
        (best_for, web, amounts, choices, ()),
    )
    if choices_many(web) <= 64:
        yield (calm_ones, web, amounts)
    for firm, _, holdings in web:
        for index, (holder, options) in enumerate(holdings):
            if holder == person:
                option = len(options) - 1
                yield (exchanged, choices, firm, index, option)
                yield (claimed, web, levels, firm, index, option)
                yield (sign_of, web, amounts, choices, firm, index, option)


def later_calls(chance, web, one, choices, person):
    """The calls of the functions of the later stages, likewise."""
    other, rival = some_more(chance, web, one), web[:-1] + ((*web[-1][:2], web[-1][2] + (("zoe", (("none",),)),)),)
    found, side, book = walk(web, one, other), {}, book_of(web, one)
    offered, classes = some_amounts(chance, web, 20), list(some_classes(chance))
    yield from (
        (gainful, web, one, choices), (led_on, web, one, choices, [3, 1, 2]), (ended, web, one, choices),
        (walk, web, one, other), (is_walk, web, one, other, found), (is_walk, web, one, other, found[1:]),
        (had_on, found, (1, 3)), (had_on, found, (1, 1)), (paid_on, web, found, (0, 1)), (pay_line, web, found, person),
        (most_on, web, found, (2, 5)), (changes, web, found, web[0][0], 0), (least_part, web, one, other, person, (2, 1)),
        (least_for_all, web, one, other, {person: (1, 1), "zoe": (0, 1)}), (better, web, rival, one, other, person),
        (alike, web, rival, one, other), (first_unlike, rival, web, one, other), (pays, web, [one, offered, one]),
        (gains, web, one, offered), (gainers, web, one, offered), (losers, web, one, offered),
        (votes_for, tuple(classes), ["ann", "ann"]), (is_carried, tuple(classes), ["ann", "bob"]),
        (is_carried_alone, web, one, offered, tuple(classes)), (is_class, classes),
        (least_side_pay, web, one, offered, tuple(classes)), (is_side_pay, web, one, offered, tuple(classes), side),
        (is_side_pay, web, one, offered, (), {name: (9, 1) for name in ("bob", "ann")}), (side_sum, {"b": (1, 1)}),
        (bearers, web, one, offered, side), (book_of, web, one), (is_book, book), (is_book, [book]),
        (unlike_in, book, book_of(web, offered)),
    )


def round_calls(deal):
    """The calls of the functions of rounds."""
    paper = round_paper(deal)
    yield from (
        (is_round, deal), (is_round, [deal]), (worths_at, deal, (2, 3)), (worth_at, deal, (2, 3)), (worth_curve, deal),
        (counts_at, deal, (2, 3)), (round_paper, deal), (is_round_paper, deal, paper), (is_round_paper, deal, list(paper)),
    )
    try:
        price_of(deal)
    except NoPrice:
        return
    yield from ((price_of, deal), (parts_of_round, deal), (things_behind, deal))


class Keeping(unittest.TestCase):
    def check(self, function, arguments):
        other = turned(arguments)
        before = shown(arguments), shown(other)
        first, second, third = function(*arguments), function(*other), function(*arguments)
        self.assertEqual((shown(arguments), shown(other)), before, function)
        self.assertEqual([shown(second), shown(third)], [shown(first)] * 2, function)
        for part in parts_of(first):
            if isinstance(part, dict):
                self.assertEqual(list(part), sorted(part), function)
        known = parts_of(arguments) + parts_of(other) + parts_of(first) + parts_of(second) + parts_of(third)
        told_ids = [id(part) for part in parts_of(first) + parts_of(second) + parts_of(third)]
        self.assertEqual(len(set(told_ids)), len(told_ids), function)
        self.assertEqual(len({id(part) for part in known}),
                         len(told_ids) + len({id(part) for part in parts_of(arguments) + parts_of(other)}), function)

    def test_all_functions(self):
        chance = source(320)
        for _ in range(25):
            web = some_clear_web(chance)
            amounts, choices = some_amounts(chance, web), some_choices(chance, web)
            person = chance.choice(persons_of(web))
            for function, *arguments in calls_of(web, amounts, choices, some_choices(chance, web), person):
                self.check(function, tuple(arguments))

    def test_the_functions_of_the_later_stages(self):
        chance = source(325)
        for _ in range(20):
            web = some_clear_web(chance)
            amounts, choices = some_amounts(chance, web), some_choices(chance, web)
            person = chance.choice(persons_of(web))
            for function, *arguments in later_calls(chance, web, amounts, choices, person):
                self.check(function, tuple(arguments))
            for function, *arguments in round_calls(some_round(chance)):
                self.check(function, tuple(arguments))

    def test_a_web_that_is_not_clear(self):
        least, most = least_row(RING, NO_AMOUNTS, RING_CHOICES), greatest_row(RING, NO_AMOUNTS, RING_CHOICES)
        for function, *arguments in (
            (circle_of, RING), (least_row, RING, NO_AMOUNTS, RING_CHOICES), (parting_lot, RING, least, most),
            (greatest_row, RING, NO_AMOUNTS, RING_CHOICES), (is_parting_lot, RING, least, most, ("cow", "doe")),
            (levels_of, RING, RING_CHOICES, most), (has_of, RING, NO_AMOUNTS, most),
        ):
            self.check(function, tuple(arguments))


if __name__ == "__main__":
    unittest.main()
