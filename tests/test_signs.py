"""[28] signs, and [7]: an exchange gains what its sign says, or changes nothing for anybody."""

import unittest

from bounds import great_amounts, great_web, within
from making import claim_pay, meant, source, told as fraction_told
from soldwhole.chosen import exchanged, first_choices
from soldwhole.errors import NotFounded
from soldwhole.forms import is_fraction
from soldwhole.signs import change_of, claimed, paid_to, sign_of, told
from soldwhole.webs import persons_of
from unclear import check_unclear
from webmaking import is_meant_right, meant_levels, meant_paid, some_amounts, some_choices, some_clear_web

NOUGHT, ONE, FOUR = (0, 1), (1, 1), (4, 1)
SHARE, DUE = ("shares", ONE), ("due", 0, FOUR)
ACME = (("acme", 1, (("ann", (SHARE,)), ("bea", (DUE, SHARE)), ("bob", (DUE, SHARE)))),)


def drawn(seed, many):
    chance = source(seed)
    for _ in range(many):
        web = some_clear_web(chance)
        yield chance, web, some_amounts(chance, web), some_choices(chance, web)


def rivals_of(web, choices):
    """The list of (person, firm, index, option) of all options of persons' holdings."""
    return [(holder, name, index, option) for name, _, holdings in web
            for index, (holder, options) in enumerate(holdings) if choices[name][index] is not None
            for option in range(len(options))]


class Told(unittest.TestCase):
    def test_levels_and_payments(self):
        for _, web, amounts, choices in drawn(280, 150):
            levels, row = told(web, amounts, choices)
            names = [firm[0] for firm in web]
            self.assertEqual([list(levels), list(row)], [names, names])
            self.assertTrue(is_meant_right(web, amounts, choices, row))
            self.assertEqual(levels, meant_levels(web, choices, row))
            paid = paid_to(web, row)
            self.assertEqual({person: meant(pay) for person, pay in paid.items()}, meant_paid(web, row))
            self.assertEqual([list(paid), tuple(paid)], [sorted(paid), persons_of(web)])
            self.assertEqual(sum(map(meant, paid.values())), sum(map(meant, amounts.values())))

    def test_levels_raised_on_a_flat_stretch_are_the_least(self):
        web = (("asp", 6, (("ann", (SHARE,)), ("bob", (DUE, ("due", 3, FOUR))))),)
        self.assertEqual(told(web, {"asp": FOUR}, {"asp": (0, 0)}), ({"asp": ONE}, {"asp": (NOUGHT, FOUR)}))
        self.assertEqual(told(web, {"asp": FOUR}, {"asp": (0, 1)}), ({"asp": FOUR}, {"asp": (NOUGHT, FOUR)}))
        self.assertEqual(told(web, {"asp": NOUGHT}, {"asp": (0, 1)}), ({"asp": NOUGHT}, {"asp": (NOUGHT, NOUGHT)}))

    def test_paid_to_needs_no_right_payments(self):
        web = (("asp", 0, (("zoe", (SHARE,)), ("bay", (SHARE,)), ("ann", (SHARE,)), ("zoe", (SHARE,)))), ("bay", 0, ()))
        found = paid_to(web, {"bay": (), "asp": (ONE, (9, 1), (1, 3), (1, 2))})
        self.assertEqual(list(found.items()), [("ann", (1, 3)), ("zoe", (3, 2))])
        self.assertEqual([paid_to((), {}), told((), {}, {})], [{}, ({}, {})])

    def test_claimed(self):
        for chance, web, amounts, choices in drawn(281, 60):
            levels = {name: fraction_told(chance.randint(0, 9)) for name, _, _ in web}
            ranks = {name: many for name, many, _ in web}
            for _, firm, index, option in rivals_of(web, choices):
                claim = [one for name, _, holdings in web if name == firm for one in holdings][index][1][option]
                pay = claim_pay(ranks[firm], claim, meant(levels[firm]))
                self.assertEqual(claimed(web, levels, firm, index, option), fraction_told(pay))


class Signs(unittest.TestCase):
    def test_an_exchange_gains_what_its_sign_says(self):
        kinds = {}
        for chance, web, amounts, choices in drawn(282, 150):
            levels, _ = told(web, amounts, choices)
            rivals = rivals_of(web, choices)
            for person, firm, index, option in chance.sample(rivals, min(6, len(rivals))):
                sign = sign_of(web, amounts, choices, firm, index, option)
                new, old = (meant(claimed(web, levels, firm, index, one)) for one in (option, choices[firm][index]))
                self.assertEqual(sign, (new > old) - (new < old))
                change = change_of(web, amounts, choices, exchanged(choices, firm, index, option))
                self.assertEqual(tuple(change), persons_of(web))
                more = meant(change[person])
                if sign == 0:
                    self.assertEqual(set(change.values()), {NOUGHT})
                elif any(one != NOUGHT for one in change.values()):
                    self.assertEqual((more > 0) - (more < 0), sign)
                kinds[sign, more != 0] = kinds.get((sign, more != 0), 0) + 1
        self.assertEqual(sorted(kinds), [(-1, False), (-1, True), (0, False), (1, False), (1, True)])
        self.assertTrue(all(many > 5 for many in kinds.values()), kinds)

    def test_changes_of_any_choices(self):
        for chance, web, amounts, choices in drawn(283, 60):
            others = some_choices(chance, web)
            change = change_of(web, amounts, choices, others)
            before, behind = (meant_paid(web, told(web, amounts, one)[1]) for one in (choices, others))
            self.assertEqual({person: meant(one) for person, one in change.items()},
                             {person: behind[person] - before[person] for person in before})
            self.assertTrue(all(is_fraction(one) for one in change.values()))
            self.assertEqual(sum(map(meant, change.values())), 0)

    def test_options_that_claim_alike(self):
        web = (("acme", 1, (("ann", (SHARE,)), ("bea", (DUE, SHARE, ("capped", DUE, (9, 1)), DUE)))),)
        for amount, signs in ((NOUGHT, [0, 0, 0, 0]), (ONE, [0, -1, 0, 0]), ((7, 1), [0, -1, 0, 0]),
                              ((8, 1), [0, 0, 0, 0]), ((9, 1), [0, 1, 0, 0])):
            found = [sign_of(web, {"acme": amount}, {"acme": (0, 0)}, "acme", 1, option) for option in range(4)]
            self.assertEqual(found, signs)

    def test_edges(self):
        stay, amounts = {"acme": (0, 0, 0)}, {"acme": (13, 1)}
        self.assertEqual(change_of(ACME, amounts, stay, stay), {"ann": NOUGHT, "bea": NOUGHT, "bob": NOUGHT})
        self.assertEqual(change_of(ACME, amounts, {"acme": (0, 1, 1)}, stay),
                         {"ann": (2, 3), "bea": (-1, 3), "bob": (-1, 3)})
        self.assertEqual([sign_of(ACME, {"acme": amount}, stay, "acme", 1, 1) for amount in ((11, 1), (12, 1), (13, 1))],
                         [-1, 0, 1])
        self.assertEqual(change_of((), {}, {}, {}), {})


class Unclear(unittest.TestCase):
    def test_a_firm_without_holdings_of_persons(self):
        web = (("asp", 0, (("ann", (SHARE,)),)), ("bay", 1, (("asp", (SHARE, DUE)),)), ("cow", 0, ()))
        amounts, choices = {"asp": ONE, "bay": ONE, "cow": ONE}, {"asp": (0,), "bay": (None,), "cow": ()}
        for lost, name in ((web, "bay"), (web[:1] + web[2:], "cow"), (web[1:], "bay")):
            with self.assertRaises(NotFounded) as caught:
                told(lost, amounts, choices)
            self.assertEqual(caught.exception.name, name)

    def test_signs(self):
        check_unclear(self, told)
        check_unclear(self, lambda web, amounts, choices: change_of(web, amounts, choices, choices))
        check_unclear(self, lambda web, amounts, choices: sign_of(web, amounts, choices, *rivals_of(web, choices)[0][1:]))


class Bounds(unittest.TestCase):
    def test_great_webs(self):
        for seed in range(3):
            web, amounts = great_web(seed), great_amounts(seed)
            choices = first_choices(web)
            with within(self):
                _, row = told(web, amounts, choices)
            self.assertTrue(is_meant_right(web, amounts, choices, row))
            for person, firm, index, option in rivals_of(web, choices)[::7]:
                with within(self):
                    change = change_of(web, amounts, choices, exchanged(choices, firm, index, option))
                    sign = sign_of(web, amounts, choices, firm, index, option)
                more = meant(change[person])
                self.assertIn((more > 0) - (more < 0), (0, sign))


if __name__ == "__main__":
    unittest.main()
