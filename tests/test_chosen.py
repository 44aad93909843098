"""[24] choices."""

import itertools
import unittest

from making import looked_at, meant_pay, source
from soldwhole.chosen import chosen_curves, choices_of, exchanged, first_choices, most_curves, open_holdings
from soldwhole.claims import curve_of, options_curve
from soldwhole.forms import are_choices, is_curve
from webmaking import all_choices, choices_many, holding_pay, some_choices, some_web

ONE, TWO, DUE = ("shares", (1, 1)), ("shares", (2, 1)), ("due", 0, (4, 1))
WEB = (
    ("asp", 1, (("ann", (ONE,)), ("bay", (DUE, ONE)), ("bob", (DUE, ONE, TWO)), ("ann", (ONE, DUE)))),
    ("bay", 0, (("bob", (TWO, ONE)), ("ann", (ONE,)))),
)
CHOICES = {"asp": (0, None, 2, 1), "bay": (1, 0)}


class Curves(unittest.TestCase):
    def test_any(self):
        chance = source(230)
        for _ in range(100):
            web = some_web(chance)
            choices = some_choices(chance, web)
            self.check(web, choices, chosen_curves(web, choices))
            self.check(web, {name: (None,) * len(holdings) for name, _, holdings in web}, most_curves(web))

    def check(self, web, choices, found):
        self.assertEqual(list(found), [firm[0] for firm in web])
        for name, ranks, holdings in web:
            self.assertIsInstance(found[name], tuple)
            self.assertEqual(len(found[name]), len(holdings))
            for one, (_, options), pick in zip(found[name], holdings, choices[name]):
                self.assertTrue(is_curve(one))
                for level in looked_at([one]):
                    self.assertEqual(meant_pay(one, level), holding_pay(ranks, options, pick, level))

    def test_a_firm_takes_what_claims_most(self):
        either = options_curve(1, (DUE, ONE))
        self.assertEqual(chosen_curves(WEB, CHOICES), {
            "asp": (curve_of(1, ONE), either, curve_of(1, TWO), curve_of(1, DUE)),
            "bay": (curve_of(0, ONE), curve_of(0, ONE)),
        })
        self.assertEqual(most_curves(WEB)["asp"], (
            curve_of(1, ONE), either, options_curve(1, (DUE, TWO)), options_curve(1, (ONE, DUE)),
        ))

    def test_edges(self):
        empty = (("asp", 0, ()),)
        self.assertEqual([chosen_curves((), {}), most_curves(()), first_choices(())], [{}, {}, {}])
        self.assertEqual([chosen_curves(empty, {"asp": ()}), most_curves(empty), first_choices(empty)],
                         [{"asp": ()}] * 3)


class Choices(unittest.TestCase):
    def test_first_ones(self):
        self.assertEqual(first_choices(WEB), {"asp": (0, None, 0, 0), "bay": (0, 0)})
        chance = source(231)
        for _ in range(100):
            web = some_web(chance)
            found = first_choices(web)
            self.assertTrue(are_choices(web, found))
            self.assertTrue(all(pick in (0, None) for picks in found.values() for pick in picks))

    def test_exchanged(self):
        self.assertEqual(exchanged(CHOICES, "asp", 2, 0), {"asp": (0, None, 0, 1), "bay": (1, 0)})
        self.assertEqual(exchanged(CHOICES, "bay", 0, 1), CHOICES)
        self.assertEqual(CHOICES, {"asp": (0, None, 2, 1), "bay": (1, 0)})
        turned = {name: CHOICES[name] for name in ("bay", "asp")}
        self.assertEqual(list(exchanged(turned, "bay", 0, 0)), ["asp", "bay"])
        self.assertEqual(list(turned), ["bay", "asp"])

    def test_open_holdings(self):
        self.assertEqual([open_holdings(WEB, name) for name in ("ann", "bob", "zoe", "bay")],
                         [(("asp", 3),), (("asp", 2), ("bay", 0)), (), (("asp", 1),)])
        self.assertEqual(open_holdings((), "ann"), ())
        many = (("asp", 0, (("bob", (ONE,)),) * 9 + (("ann", (ONE, DUE)),) * 3),)
        self.assertEqual(open_holdings(many, "ann"), (("asp", 9), ("asp", 10), ("asp", 11)))

    def test_choices_of(self):
        self.assertEqual(choices_of(WEB, CHOICES, "bob"), [
            {"asp": (0, None, option, 1), "bay": (other, 0)} for option in (0, 1, 2) for other in (0, 1)
        ])
        self.assertEqual(choices_of(WEB, CHOICES, "zoe"), [CHOICES])
        self.assertEqual(choices_of((), {}, "ann"), [{}])

    def test_choices_of_any(self):
        chance = source(232)
        for _ in range(60):
            web = some_web(chance)
            if choices_many(web) > 100:
                continue
            choices = some_choices(chance, web)
            for person in ("ann", "bob", "cat"):
                places = {(name, index) for name, _, holdings in web for index, one in enumerate(holdings)
                          if one[0] == person}
                alike = [
                    one for one in all_choices(web)
                    if all(entry == mine or (name, index) in places for name in choices
                           for index, (entry, mine) in enumerate(zip(one[name], choices[name])))
                ]
                self.assertEqual(choices_of(web, choices, person), alike)

    def test_what_is_told_is_new(self):
        turned = {name: CHOICES[name] for name in ("bay", "asp")}
        for person in ("ann", "bob", "zoe"):
            found = choices_of(WEB, turned, person)
            self.assertTrue(all(list(one) == ["asp", "bay"] for one in found))
            for one, other in itertools.combinations([turned, *found], 2):
                self.assertIsNot(one, other)
            found[0].clear()
            self.assertEqual(choices_of(WEB, turned, person)[0].keys(), CHOICES.keys())
        self.assertIsNot(exchanged(turned, "bay", 0, 1), turned)
        self.assertEqual(turned, CHOICES)
        first_choices(WEB).clear()
        self.assertEqual(len(first_choices(WEB)), 2)


if __name__ == "__main__":
    unittest.main()
