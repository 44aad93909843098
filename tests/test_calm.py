"""[30] calm choices, and [8]: MOST CHOICES are CALM, and all CALM CHOICES pay everybody alike."""

import unittest

from bounds import great_amounts, great_web, with_open, within
from making import meant, source
from soldwhole.calm import bettered_by, calm_ones, is_calm
from soldwhole.chosen import choices_of, first_choices, open_holdings
from soldwhole.errors import TooMany
from soldwhole.outcomes import is_most, most_choices, outcome
from soldwhole.signs import paid_to, told
from soldwhole.webs import persons_of
from unclear import check_unclear
from webmaking import all_choices, choices_many, meant_paid, some_amounts, some_clear_web

NOUGHT, ONE, FOUR = (0, 1), (1, 1), (4, 1)
SHARE, DUE = ("shares", ONE), ("due", 0, FOUR)
ACME = (("acme", 1, (("ann", (SHARE,)), ("bea", (DUE, SHARE)), ("bob", (DUE, SHARE)))),)


def paid_by(web, amounts, choices):
    return meant_paid(web, told(web, amounts, choices)[1])


def with_many(*options_many):
    """A WEB of two firms in which a person each has so many options, all but the first few alike."""
    holdings = tuple(("ann" if place % 2 else "bob", (DUE, SHARE, ("none",), *[SHARE] * many)[:many])
                     for place, many in enumerate(options_many))
    return (("asp", 1, (("cat", (SHARE,)), *holdings[:1])), ("bay", 1, (("cat", (SHARE,)), *holdings[1:])))


def crowded(web):
    """The WEB with so many more open holdings in each firm that there are too many CHOICES."""
    return tuple((name, ranks, (*holdings, *[("ann", (SHARE, SHARE))] * 9)) for name, ranks, holdings in web)


class Brute(unittest.TestCase):
    """Against all CHOICES there are, gone through one by one."""

    def drawn(self, seed, many):
        chance = source(seed)
        for _ in range(many):
            web = some_clear_web(chance)
            if choices_many(web) <= 64:
                yield chance, web, some_amounts(chance, web)

    def test_all_choices(self):
        kinds = {True: 0, False: 0}
        for _, web, amounts in self.drawn(300, 120):
            ones = all_choices(web)
            paid = {repr(one): paid_by(web, amounts, one) for one in ones}
            best = meant_paid(web, outcome(web, amounts)[1])
            calm = []
            for one in ones:
                firsts = {person: self.first_more(web, paid, one, person) for person in persons_of(web)}
                for person, first in firsts.items():
                    self.assertEqual(bettered_by(web, amounts, one, person), first)
                right = all(first is None for first in firsts.values())
                self.assertIs(is_calm(web, amounts, one), right)
                kinds[right] += 1
                if right:
                    calm.append(one)
                    self.assertEqual(paid[repr(one)], best)
                if is_most(web, amounts, one):
                    self.assertTrue(right)
            self.assertEqual(calm_ones(web, amounts), calm)
            self.assertIn(most_choices(web, amounts), calm)
        self.assertTrue(all(many > 50 for many in kinds.values()), kinds)

    def first_more(self, web, paid, choices, person):
        for one in choices_of(web, choices, person):
            if paid[repr(one)][person] > paid[repr(choices)][person]:
                return one
        return None

    def test_most_choices_are_calm(self):
        for _, web, amounts in self.drawn(301, 100):
            choices = most_choices(web, amounts)
            self.assertIs(is_calm(web, amounts, choices), True)
            for person in persons_of(web):
                self.assertIsNone(bettered_by(web, amounts, choices, person))


class Edges(unittest.TestCase):
    def test_persons_with_none_with_one_and_with_several_open_holdings(self):
        much, go = {"acme": (13, 1)}, {"acme": (0, 1, 0)}
        self.assertEqual([bettered_by(ACME, much, go, person) for person in ("ann", "bea", "bob", "zoe")],
                         [None, None, {"acme": (0, 1, 1)}, None])
        web = (("acme", 1, (("ann", (SHARE,)), ("bea", (("none",), DUE)), ("bea", (("none",), ("none",), DUE)))),)
        none = {"acme": (0, 0, 0)}
        self.assertEqual(bettered_by(web, {"acme": FOUR}, none, "bea"), {"acme": (0, 0, 2)})
        self.assertEqual(bettered_by(web, {"acme": (9, 1)}, {"acme": (0, 0, 2)}, "bea"), {"acme": (0, 1, 2)})
        self.assertIsNone(bettered_by(web, {"acme": FOUR}, {"acme": (0, 0, 2)}, "bea"))
        self.assertIs(is_calm(web, {"acme": FOUR}, {"acme": (0, 1, 0)}), True)

    def test_the_first_that_pays_more_need_not_pay_most(self):
        web = (("acme", 1, (("ann", (SHARE,)), ("bea", (("none",), ("due", 0, ONE), DUE)))),)
        self.assertEqual(bettered_by(web, {"acme": (9, 1)}, {"acme": (0, 0)}, "bea"), {"acme": (0, 1)})

    def test_all_paid_as_in_the_outcome_but_not_calm(self):
        """A claim of a later rank pays as much here; but of more of it, others would get less."""
        bea = (("due", 0, FOUR), ("due", 1, (8, 1)), ("due", 1, (10, 1)))
        web = (("acme", 2, (("ann", (SHARE,)), ("bea", bea), ("bob", (("due", 0, (3, 1)), ("due", 1, (6, 1)))))),)
        amounts, choices = {"acme": (7, 1)}, {"acme": (0, 1, 1)}
        self.assertEqual(told(web, amounts, choices)[1], outcome(web, amounts)[1])
        self.assertIs(is_calm(web, amounts, choices), False)
        self.assertEqual(bettered_by(web, amounts, choices, "bea"), {"acme": (0, 2, 1)})
        self.assertNotIn(choices, calm_ones(web, amounts))

    def test_amounts_of_nought_and_great_ones(self):
        self.assertEqual(calm_ones(ACME, {"acme": NOUGHT}), all_choices(ACME))
        self.assertEqual(calm_ones(ACME, {"acme": (12, 1)}), all_choices(ACME))
        self.assertEqual(calm_ones(ACME, {"acme": (10 ** 199, 3)}), [{"acme": (0, 1, 1)}])
        self.assertEqual(calm_ones(ACME, {"acme": (11, 1)}), [{"acme": (0, 0, 0)}])

    def test_without_firms_and_without_choices(self):
        self.assertEqual([calm_ones((), {}), is_calm((), {}, {}), bettered_by((), {}, {}, "ann")], [[{}], True, None])
        web = (("asp", 0, (("ann", (SHARE,)),)), ("bay", 0, (("ann", (SHARE,)), ("asp", (SHARE, DUE)))))
        amounts = {"asp": ONE, "bay": ONE}
        self.assertEqual(calm_ones(web, amounts), [{"asp": (0,), "bay": (0, None)}])

    def test_what_is_told_is_new(self):
        found = calm_ones(ACME, {"acme": NOUGHT})
        self.assertEqual(len({id(one) for one in found}), 4)
        found[0].clear()
        found.clear()
        self.assertEqual(calm_ones(ACME, {"acme": NOUGHT}), all_choices(ACME))


class Many(unittest.TestCase):
    def test_just_so_many_and_more(self):
        for many, right in (((256,), True), ((257,), False), ((16, 16), True), ((2,) * 8, True), ((2,) * 9, False),
                            ((1,) * 20 + (256,), True), ((3, 86), False), ((128, 2), True)):
            web, amounts = with_many(*many), {"asp": (9, 1), "bay": (9, 1)}
            if right:
                found = calm_ones(web, amounts)
                self.assertTrue(found)
                self.assertTrue(all(is_calm(web, amounts, one) for one in found[:3]))
                continue
            with self.assertRaises(TooMany) as caught:
                calm_ones(web, amounts)
            self.assertEqual(caught.exception.most, 256)

    def test_behind_the_other_errors(self):
        check_unclear(self, lambda web, amounts, _: calm_ones(crowded(web), amounts))


class Unclear(unittest.TestCase):
    def test_calm(self):
        check_unclear(self, lambda web, amounts, _: calm_ones(web, amounts))
        check_unclear(self, is_calm)
        check_unclear(self, lambda web, amounts, choices: bettered_by(web, amounts, choices, "ann"))


class Bounds(unittest.TestCase):
    def test_all_choices_of_a_great_web(self):
        for seed in range(2):
            web = with_open(great_web(seed, firms_part=0.5), ("ann", "bob", "cat", "dan"), 8, 2)
            amounts = great_amounts(seed)
            self.assertEqual(choices_many(web), 256)
            with within(self, 30):
                found = calm_ones(web, amounts)
            best = paid_to(web, outcome(web, amounts)[1])
            self.assertIn(most_choices(web, amounts), found)
            for one in found[:5]:
                self.assertEqual(paid_to(web, told(web, amounts, one)[1]), best)
                self.assertIs(is_calm(web, amounts, one), True)

    def test_four_open_holdings_of_six_options(self):
        for seed in range(3):
            web = with_open(great_web(seed, firms_part=0.4), ("ann", "bob", "cat", "dan", "eva"), 20, 6)
            amounts = great_amounts(seed)
            choices = first_choices(web)
            for person in persons_of(web):
                self.assertLessEqual(len(open_holdings(web, person)), 4)
                with within(self):
                    found = bettered_by(web, amounts, choices, person)
                if found is not None:
                    more, less = (meant(paid_to(web, told(web, amounts, one)[1])[person]) for one in (found, choices))
                    self.assertGreater(more, less)
            with within(self):
                self.assertIs(is_calm(web, amounts, most_choices(web, amounts)), True)


if __name__ == "__main__":
    unittest.main()
