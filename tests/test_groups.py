"""[31] groups, and [8]: no group of persons is by any other options PAID more in all than by CHOICES that are MOST."""

import itertools
import unittest

from bounds import great_amounts, great_web, with_open, within
from making import meant, source, told as fraction_told
from soldwhole.chosen import first_choices, open_holdings
from soldwhole.errors import TooMany
from soldwhole.groups import best_for, group_change
from soldwhole.outcomes import most_choices
from soldwhole.signs import change_of, paid_to, told
from soldwhole.webs import persons_of
from test_calm import crowded, paid_by, with_many
from unclear import check_unclear
from webmaking import all_choices, choices_many, some_amounts, some_choices, some_clear_web

NOUGHT, ONE, FOUR = (0, 1), (1, 1), (4, 1)
SHARE, DUE = ("shares", ONE), ("due", 0, FOUR)
ACME = (("acme", 1, (("ann", (SHARE,)), ("bea", (DUE, SHARE)), ("bob", (DUE, SHARE)))),)
MUCH = {"acme": (13, 1)}


def drawn(seed, many):
    chance = source(seed)
    for _ in range(many):
        web = some_clear_web(chance)
        if choices_many(web) <= 64:
            yield chance, web, some_amounts(chance, web)


def groups_of(web):
    """All tuples of PERSONS, ascending, none and all of them among these."""
    persons = persons_of(web)
    return [row for many in range(len(persons) + 1) for row in itertools.combinations(persons, many)]


def are_alike_but_for(web, one, other, persons):
    """Whether two CHOICES are unlike at most at holdings of these persons."""
    return all(mine == entry or holder in persons for name, _, holdings in web
               for (holder, _), mine, entry in zip(holdings, one[name], other[name]))


class Brute(unittest.TestCase):
    def test_all_choices(self):
        for chance, web, amounts in drawn(310, 80):
            ones = all_choices(web)
            paid = {repr(one): paid_by(web, amounts, one) for one in ones}
            choices = chance.choice(ones)
            for persons in groups_of(web):
                sums = [(sum((paid[repr(one)][person] for person in persons), meant(NOUGHT)), one) for one in ones
                        if are_alike_but_for(web, one, choices, persons)]
                most = max(one for one, _ in sums)
                first = [one for pay, one in sums if pay == most][0]
                self.assertEqual(best_for(web, amounts, choices, persons), (fraction_told(most), first))

    def test_none_has_more_than_by_most_choices(self):
        for chance, web, amounts in drawn(311, 80):
            choices = most_choices(web, amounts)
            paid = paid_by(web, amounts, choices)
            for persons in groups_of(web):
                now = fraction_told(sum((paid[person] for person in persons), meant(NOUGHT)))
                self.assertEqual(best_for(web, amounts, choices, persons)[0], now)

    def test_changes(self):
        for chance, web, amounts in drawn(312, 60):
            choices, others = some_choices(chance, web), some_choices(chance, web)
            before, behind = paid_by(web, amounts, choices), paid_by(web, amounts, others)
            for persons in groups_of(web):
                more = sum((behind[person] - before[person] for person in persons), meant(NOUGHT))
                self.assertEqual(group_change(web, amounts, choices, others, persons), fraction_told(more))
            self.assertEqual(group_change(web, amounts, choices, others, persons_of(web)), NOUGHT)


class Edges(unittest.TestCase):
    def test_groups_of_all_of_none_of_one(self):
        stay, go = {"acme": (0, 0, 0)}, {"acme": (0, 1, 1)}
        self.assertEqual([best_for(ACME, MUCH, stay, ()), best_for(ACME, MUCH, stay, ("ann",))],
                         [(NOUGHT, stay), ((5, 1), stay)])
        self.assertEqual([best_for(ACME, MUCH, stay, ("bea",)), best_for(ACME, MUCH, stay, ("bea", "bob"))],
                         [((9, 2), {"acme": (0, 1, 0)}), ((26, 3), go)])
        self.assertEqual(best_for(ACME, MUCH, stay, ("ann", "bea", "bob")), ((13, 1), stay))
        self.assertEqual(best_for(ACME, {"acme": (12, 1)}, go, ("bea", "bob")), ((8, 1), stay))
        self.assertEqual([group_change(ACME, MUCH, stay, go, persons) for persons in
                          ((), ("ann",), ("bea", "bob"), ("ann", "bea", "bob"))],
                         [NOUGHT, (-2, 3), (2, 3), NOUGHT])
        self.assertEqual(change_of(ACME, MUCH, stay, go), {"ann": (-2, 3), "bea": (1, 3), "bob": (1, 3)})

    def test_without_firms(self):
        self.assertEqual([best_for((), {}, {}, ()), group_change((), {}, {}, {}, ())], [(NOUGHT, {}), NOUGHT])

    def test_what_is_told_is_new(self):
        stay = {"acme": (0, 0, 0)}
        for persons in ((), ("ann",), ("bea",), ("ann", "bea", "bob")):
            found = best_for(ACME, MUCH, stay, persons)[1]
            self.assertIsNot(found, stay)
            found.clear()
            self.assertTrue(best_for(ACME, MUCH, stay, persons)[1])
        self.assertEqual(stay, {"acme": (0, 0, 0)})


class Many(unittest.TestCase):
    def test_just_so_many_and_more(self):
        amounts = {"asp": (9, 1), "bay": (9, 1)}
        # The holdings are ann's and bob's in turn: bob has the first one.
        for many, persons, right in (
            ((256,), ("bob",), True), ((257,), ("bob",), False), ((257,), ("cat",), True), ((257,), (), True),
            ((16, 16), ("ann", "bob"), True), ((16, 17), ("ann", "bob"), False), ((16, 17), ("ann",), True),
            ((2,) * 9, ("bob", "cat"), True), ((2,) * 9, ("ann", "bob"), False), ((1,) * 20, ("ann", "bob"), True),
        ):
            web = with_many(*many)
            if right:
                most, others = best_for(web, amounts, first_choices(web), persons)
                paid = paid_to(web, told(web, amounts, others)[1])
                self.assertEqual(sum(meant(paid[person]) for person in persons), meant(most))
                continue
            with self.assertRaises(TooMany) as caught:
                best_for(web, amounts, first_choices(web), persons)
            self.assertEqual(caught.exception.most, 256)

    def test_behind_the_other_errors(self):
        check_unclear(self, lambda web, amounts, _: best_for(
            crowded(web), amounts, first_choices(crowded(web)), persons_of(crowded(web)),
        ))


class Unclear(unittest.TestCase):
    def test_groups(self):
        check_unclear(self, lambda web, amounts, choices: best_for(web, amounts, choices, ()))
        check_unclear(self, lambda web, amounts, choices: group_change(web, amounts, choices, choices, ()))


class Bounds(unittest.TestCase):
    def test_all_choices_of_a_great_web(self):
        for seed in range(3):
            web = with_open(great_web(seed, firms_part=0.5), ("ann", "bob", "cat", "dan"), 8, 2)
            amounts, choices = great_amounts(seed), first_choices(web)
            for persons in (("ann", "bob", "cat", "dan"), ("bob",), ("cat", "dan")):
                with within(self):
                    most, others = best_for(web, amounts, choices, persons)
                gained = group_change(web, amounts, choices, others, persons)
                paid = paid_to(web, told(web, amounts, choices)[1])
                self.assertEqual(meant(most) - meant(gained), sum(meant(paid[person]) for person in persons))
                self.assertGreaterEqual(meant(gained), 0)
                self.assertTrue(any(open_holdings(web, person) for person in persons))


if __name__ == "__main__":
    unittest.main()
