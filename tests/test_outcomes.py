"""[29] the outcome, and [8] as far as it tells of CHOICES that are MOST."""

import unittest

from bounds import great_amounts, great_web, within
from making import ODD_VALUES, claim_pay, meant, source, told as fraction_told
from soldwhole.outcomes import is_main_paper, is_most, main_paper, most_choices, outcome
from soldwhole.signs import told
from unclear import check_unclear
from webmaking import (
    all_choices, choices_many, is_meant_right, meant_has, meant_levels, some_amounts, some_choices, some_clear_web,
)

NOUGHT, ONE, FOUR = (0, 1), (1, 1), (4, 1)
SHARE, DUE = ("shares", ONE), ("due", 0, FOUR)
ACME = (("acme", 1, (("ann", (SHARE,)), ("bea", (DUE, SHARE)), ("bob", (DUE, SHARE)))),)
STEPS = (("asp", 6, (("ann", (SHARE,)), ("bob", (DUE, ("due", 3, FOUR), ("sum", (DUE, ("due", 3, FOUR))))))),)


def drawn(seed, many):
    chance = source(seed)
    for _ in range(many):
        web = some_clear_web(chance)
        yield chance, web, some_amounts(chance, web), some_choices(chance, web)


def claims_of(web, levels):
    """For each person's holding the tuple (firm, index, what each option claims at these levels)."""
    names = [firm[0] for firm in web]
    return [(name, index, [claim_pay(ranks, option, meant(levels[name])) for option in options])
            for name, ranks, holdings in web for index, (holder, options) in enumerate(holdings) if holder not in names]


def are_meant_most(web, levels, choices):
    return all(claims[choices[name][index]] == max(claims) for name, index, claims in claims_of(web, levels))


def is_meant_paper(web, amounts, levels, choices):
    """Whether levels and CHOICES are a MAIN PAPER, by its words; no lesser level pays so by the steps of a waterfall."""
    if not are_meant_most(web, levels, choices):
        return False
    row = {
        name: tuple(
            fraction_told(max(claim_pay(ranks, claim, meant(levels[name]))
                              for claim in (options if pick is None else (options[pick],))))
            for (_, options), pick in zip(holdings, choices[name])
        )
        for name, ranks, holdings in web
    }
    has = meant_has(web, amounts, row)
    return all(sum(map(meant, row[name])) == has[name] for name in row) and meant_levels(web, choices, row) == levels


class Outcomes(unittest.TestCase):
    def test_each_holding_has_what_claims_most(self):
        for _, web, amounts, _ in drawn(290, 150):
            levels, row = outcome(web, amounts)
            names = [firm[0] for firm in web]
            self.assertEqual([list(levels), list(row)], [names, names])
            free = {name: (None,) * len(holdings) for name, _, holdings in web}
            self.assertTrue(is_meant_right(web, amounts, free, row))
            self.assertEqual(levels, meant_levels(web, free, row))

    def test_most_choices_are_the_first_ones_and_have_its_payments(self):
        for _, web, amounts, _ in drawn(291, 150):
            levels, row = outcome(web, amounts)
            choices = most_choices(web, amounts)
            self.assertEqual(list(choices), [firm[0] for firm in web])
            expected = {name: [None] * len(holdings) for name, _, holdings in web}
            for name, index, claims in claims_of(web, levels):
                expected[name][index] = claims.index(max(claims))
            self.assertEqual(choices, {name: tuple(picks) for name, picks in expected.items()})
            self.assertEqual(told(web, amounts, choices), (levels, row))
            self.assertIs(is_most(web, amounts, choices), True)

    def test_which_choices_are_most(self):
        kinds = {True: 0, False: 0}
        for chance, web, amounts, _ in drawn(292, 80):
            ones = all_choices(web) if choices_many(web) <= 40 else [some_choices(chance, web) for _ in range(20)]
            for choices in ones:
                levels, row = told(web, amounts, choices)
                found = is_most(web, amounts, choices)
                self.assertIs(found, are_meant_most(web, levels, choices))
                kinds[found] += 1
                if found:
                    self.assertEqual((levels, row), outcome(web, amounts))
        self.assertTrue(all(many > 50 for many in kinds.values()), kinds)

    def test_edges(self):
        self.assertEqual([outcome((), {}), most_choices((), {}), main_paper((), {})], [({}, {}), {}, ({}, {})])
        self.assertEqual([is_most((), {}, {}), is_main_paper((), {}, ({}, {}))], [True, True])
        nought = {"acme": NOUGHT}
        self.assertEqual(outcome(ACME, nought), (nought, {"acme": (NOUGHT,) * 3}))
        self.assertEqual(most_choices(ACME, nought), {"acme": (0, 0, 0)})
        self.assertTrue(all(is_most(ACME, nought, one) for one in all_choices(ACME)))
        # At 12 the due and the share claim alike, at less the due more, at more the share.
        for amount, row in (((11, 1), (0, 0)), ((12, 1), (0, 0)), ((25, 2), (1, 1))):
            self.assertEqual(most_choices(ACME, {"acme": amount}), {"acme": (0, *row)})
        great = {"acme": (3 * 10 ** 199, 1)}
        self.assertEqual(outcome(ACME, great)[1], {"acme": ((10 ** 199, 1),) * 3})

    def test_the_levels_are_the_least(self):
        self.assertEqual(outcome(STEPS, {"asp": FOUR}), ({"asp": ONE}, {"asp": (NOUGHT, FOUR)}))
        self.assertEqual(most_choices(STEPS, {"asp": FOUR}), {"asp": (0, 0)})
        self.assertEqual(most_choices(STEPS, {"asp": (5, 1)}), {"asp": (0, 2)})
        self.assertEqual([is_most(STEPS, {"asp": FOUR}, {"asp": (0, pick)}) for pick in range(3)], [True, False, True])

    def test_firms_take_what_claims_most_at_each_level(self):
        web = (("asp", 1, (("ann", (SHARE,)), ("bay", (DUE, SHARE)))), ("bay", 0, (("bob", (SHARE,)),)))
        choices = {"asp": (0, None), "bay": (0,)}
        for amount, pay in (((2, 1), (2, 1)), ((8, 1), (4, 1)), ((12, 1), (6, 1))):
            levels, row = outcome(web, {"bay": ONE, "asp": amount})
            self.assertEqual([row["asp"][1], row["bay"]], [pay, ((pay[0] + 1, 1),)])
            self.assertEqual(most_choices(web, {"bay": ONE, "asp": amount}), choices)

    def test_great_webs(self):
        for seed in range(4):
            web, amounts = great_web(seed), great_amounts(seed)
            with within(self):
                levels, row = outcome(web, amounts)
                choices = most_choices(web, amounts)
                self.assertEqual(told(web, amounts, choices), (levels, row))
                self.assertIs(is_most(web, amounts, choices), True)
            self.assertIs(is_main_paper(web, amounts, (levels, choices)), True)


class Papers(unittest.TestCase):
    def test_any(self):
        kinds = {True: 0, False: 0}
        for chance, web, amounts, _ in drawn(293, 80):
            paper = main_paper(web, amounts)
            self.assertEqual(paper, (outcome(web, amounts)[0], most_choices(web, amounts)))
            self.assertIs(is_main_paper(web, amounts, paper), True)
            for _ in range(8):
                choices = some_choices(chance, web)
                levels = chance.choice((paper[0], told(web, amounts, choices)[0], self.moved(chance, paper[0])))
                right = is_meant_paper(web, amounts, levels, choices)
                self.assertIs(is_main_paper(web, amounts, (levels, choices)), right)
                kinds[right] += 1
        self.assertTrue(all(many > 50 for many in kinds.values()), kinds)

    def moved(self, chance, levels):
        name = chance.choice(list(levels))
        more = meant(levels[name]) + chance.choice((1, meant((1, 2))))
        return {**levels, name: fraction_told(more)}

    def test_levels_raised_on_a_flat_stretch(self):
        amounts = {"asp": FOUR}
        for level, right in ((ONE, True), ((2, 1), False), ((3, 1), False), ((1, 2), False), (NOUGHT, False)):
            self.assertIs(is_main_paper(STEPS, amounts, ({"asp": level}, {"asp": (0, 0)})), right)
            self.assertIs(is_main_paper(STEPS, amounts, ({"asp": level}, {"asp": (0, 2)})), right)
            self.assertIs(is_main_paper(STEPS, amounts, ({"asp": level}, {"asp": (0, 1)})), False)
        self.assertIs(is_main_paper(STEPS, amounts, ({"asp": FOUR}, {"asp": (0, 1)})), False)
        # Nothing is paid up to the level 0 alone, where ranks ask for more.
        late = (("asp", 2, (("ann", (SHARE,)),)),)
        self.assertEqual([is_main_paper(late, {"asp": NOUGHT}, ({"asp": level}, {"asp": (0,)})) for level in
                          (NOUGHT, ONE, (2, 1), (3, 1))], [True, False, False, False])

    def test_wrong_values(self):
        amounts, (levels, choices) = {"acme": (13, 1)}, main_paper(ACME, {"acme": (13, 1)})
        for thing in (
            *ODD_VALUES, [levels, choices], (levels,), (levels, choices, None), (choices, levels), (levels, None),
            (None, choices), ({}, choices), (levels, {}), ({**levels, "bay": ONE}, choices),
            (levels, {**choices, "bay": ()}), ({"acme": [16, 3]}, choices), ({"acme": (32, 6)}, choices),
            ({"acme": None}, choices), ({"acme": (-1, 1)}, choices), (levels, {"acme": [0, 1, 1]}),
            (levels, {"acme": (0, 1)}), (levels, {"acme": (0, 1, 1, 1)}), (levels, {"acme": (0, 1, 2)}),
            (levels, {"acme": (False, 1, 1)}), (levels, {"acme": (0, True, True)}), (levels, {"acme": (0, None, 1)}),
            (levels, {"acme": (0, -1, -1)}), ({"acme": (10 ** 999, 1)}, choices), (levels, tuple(choices.items())),
            ({"acme": (True, 1)}, choices), ("levels", "choices"), {"levels": levels, "choices": choices},
        ):
            self.assertIs(is_main_paper(ACME, amounts, thing), False, thing)
        self.assertIs(is_main_paper(ACME, amounts, (levels, choices)), True)
        self.assertIs(is_main_paper(ACME, {"acme": (12, 1)}, (levels, choices)), False)


class Unclear(unittest.TestCase):
    def test_outcomes(self):
        for call in (outcome, most_choices, main_paper):
            check_unclear(self, lambda web, amounts, _, call=call: call(web, amounts))
        check_unclear(self, is_most)
        check_unclear(self, lambda web, amounts, choices: is_main_paper(web, amounts, (amounts, choices)))
        check_unclear(self, lambda web, amounts, _: is_main_paper(web, amounts, None))


if __name__ == "__main__":
    unittest.main()
