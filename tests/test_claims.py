"""[16] claims."""

import unittest

from making import above_zero, claim_pay, looked_at, meant, meant_pay, nested, some_claim, source, told
from soldwhole.claims import claims_in, curve_of, has_due, options_curve, ranks_needed, scaled_claim, tidied
from soldwhole.curves import nothing, scaled
from soldwhole.forms import is_claim, is_curve

SHARE, DUE, NONE = ("shares", (1, 1)), ("due", 0, (4, 1)), ("none",)


def capped(claim, amount):
    return ("capped", claim, amount)


def summed(*claims):
    return ("sum", claims)


class Curves(unittest.TestCase):
    def test_what_they_pay(self):
        chance = source(20)
        for _ in range(300):
            ranks = chance.randint(0, 6)
            claim = some_claim(chance, ranks, 5)
            one = curve_of(ranks, claim)
            self.assertTrue(is_curve(one))
            for level in looked_at([one], 20):
                self.assertEqual(meant_pay(one, level), claim_pay(ranks, claim, level))

    def test_options(self):
        chance = source(21)
        for _ in range(100):
            ranks = chance.randint(0, 6)
            options = tuple(some_claim(chance, ranks) for _ in range(chance.randint(1, 6)))
            one = options_curve(ranks, options)
            self.assertTrue(is_curve(one))
            for level in looked_at([one, *[curve_of(ranks, option) for option in options]], 20):
                self.assertEqual(meant_pay(one, level), max(claim_pay(ranks, option, level) for option in options))
        self.assertEqual(options_curve(1, (DUE,)), curve_of(1, DUE))

    def test_edges(self):
        start = ((0, 1), (0, 1))
        self.assertEqual([curve_of(0, NONE), curve_of(6, NONE)], [nothing()] * 2)
        self.assertEqual([curve_of(0, SHARE), curve_of(6, SHARE)],
                         [((start,), (1, 1)), ((start, ((6, 1), (0, 1))), (1, 1))])
        self.assertEqual(curve_of(6, ("due", 5, (2, 1))), ((start, ((5, 1), (0, 1)), ((6, 1), (2, 1))), (0, 1)))
        self.assertEqual(curve_of(0, ("option", (2, 1), (1, 3))), ((start, ((1, 3), (0, 1))), (2, 1)))
        self.assertEqual(curve_of(2, summed(("due", 0, (1, 1)), ("due", 1, (1, 1)))),
                         ((start, ((2, 1), (2, 1))), (0, 1)))

    def test_deep_ones(self):
        for word in ("capped", "sum"):
            deep = nested(1500, SHARE, word)
            self.assertEqual(curve_of(0, deep), curve_of(0, capped(SHARE, (5, 1)) if word == "capped" else SHARE))
            self.assertEqual(tidied(deep), capped(SHARE, (5, 1)) if word == "capped" else SHARE)
            self.assertEqual(claims_in(deep), 1501 if word == "capped" else 3001)
            self.assertEqual([has_due(deep), ranks_needed(deep)], [False, 0])
            self.assertEqual(tidied(scaled_claim(deep, (2, 1)))[-1], (10, 1) if word == "capped" else (2, 1))


class Parts(unittest.TestCase):
    def test_dues_and_ranks(self):
        for claim, ranks, many in (
            (NONE, 0, 1), (SHARE, 0, 1), (DUE, 1, 1), (("due", 5, (1, 1)), 6, 1), (capped(DUE, (1, 1)), 1, 2),
            (summed(SHARE, capped(summed(NONE, ("due", 2, (1, 1))), (1, 1))), 3, 6),
            (summed(DUE, ("due", 3, (1, 1))), 4, 3),
            (summed(("due", 3, (1, 1)), DUE, DUE), 4, 4), (("option", (9, 1), (9, 1)), 0, 1),
        ):
            self.assertEqual([has_due(claim), ranks_needed(claim), claims_in(claim)], [ranks > 0, ranks, many])
        chance = source(22)
        for _ in range(200):
            claim = some_claim(chance, 6, 5)
            self.assertEqual(ranks_needed(claim), min(ranks for ranks in range(7) if is_claim(ranks, claim)))
            self.assertIs(has_due(claim), ranks_needed(claim) > 0)

    def test_scaled(self):
        self.assertEqual(scaled_claim(summed(NONE, DUE, SHARE, ("option", (2, 1), (3, 1)), capped(SHARE, (6, 1))),
                                      (1, 3)),
                         summed(NONE, ("due", 0, (4, 3)), ("shares", (1, 3)), ("option", (2, 3), (3, 1)),
                                capped(("shares", (1, 3)), (2, 1))))
        chance = source(23)
        for _ in range(200):
            claim, factor = some_claim(chance, 3, 5), above_zero(chance)
            self.assertEqual(curve_of(3, scaled_claim(claim, factor)), scaled(curve_of(3, claim), factor))
            self.assertEqual(scaled_claim(claim, (1, 1)), claim)
            self.assertEqual(scaled_claim(scaled_claim(claim, factor), told(1 / meant(factor))), claim)


class Tidy(unittest.TestCase):
    def test_any(self):
        chance = source(24)
        for _ in range(600):
            claim = some_claim(chance, 4, 5)
            tidy = tidied(claim)
            for ranks in range(ranks_needed(claim), 7):
                self.assertEqual(curve_of(ranks, tidy), curve_of(ranks, claim))
            self.assertEqual(tidied(tidy), tidy)
            self.assertEqual(tidy, self.plain(claim))

    def plain(self, claim):
        """The tidy claim by the words of the document, by calling itself."""
        if claim[0] == "capped":
            inner = self.plain(claim[1])
            if inner[0] == "capped":
                return capped(inner[1], min(inner[2], claim[2], key=lambda one: meant(one)))
            small = inner[0] == "none" or (inner[0] == "due" and meant(inner[2]) <= meant(claim[2]))
            return inner if small else capped(inner, claim[2])
        if claim[0] != "sum":
            return claim
        parts = [self.plain(one) for one in claim[1]]
        parts = [one for part in parts for one in (part[1] if part[0] == "sum" else (part,))]
        put = {}
        for part in parts:
            if part[0] not in ("none", "capped"):
                at = {"due": 2, "shares": 1, "option": 1}[part[0]]
                key = part[:at] + part[at + 1:]
                put[key] = put.get(key, 0) + meant(part[at])
        dues = [("due", key[1], told(put[key])) for key in sorted(put) if key[0] == "due"]
        shares = [("shares", told(put[key])) for key in put if key == ("shares",)]
        prices = sorted((key[1] for key in put if key[0] == "option"), key=meant)
        options = [("option", told(put[("option", price)]), price) for price in prices]
        found = dues + shares + options + sorted(part for part in parts if part[0] == "capped")
        return ("sum", tuple(found)) if len(found) > 1 else (found + [NONE])[0]

    def test_named(self):
        for claim, tidy in (
            (NONE, NONE), (capped(NONE, (1, 1)), NONE), (summed(NONE, NONE), NONE), (summed(NONE, DUE), DUE),
            (capped(capped(SHARE, (3, 1)), (2, 1)), capped(SHARE, (2, 1))), (capped(DUE, (3, 1)), capped(DUE, (3, 1))),
            (capped(capped(SHARE, (2, 1)), (3, 1)), capped(SHARE, (2, 1))), (capped(DUE, (4, 1)), DUE),
            (capped(summed(NONE, capped(SHARE, (2, 1))), (1, 1)), capped(SHARE, (1, 1))),
            (capped(summed(DUE, DUE), (8, 1)), ("due", 0, (8, 1))),
            (capped(summed(DUE, DUE), (7, 1)), capped(("due", 0, (8, 1)), (7, 1))),
            (summed(SHARE, DUE, ("due", 1, (1, 1)), DUE), summed(("due", 0, (8, 1)), ("due", 1, (1, 1)), SHARE)),
            (summed(("option", (1, 1), (1, 2)), ("option", (1, 1), (1, 3)), ("option", (2, 1), (1, 2))),
             summed(("option", (1, 1), (1, 3)), ("option", (3, 1), (1, 2)))),
            (summed(("option", (1, 1), (2, 1)), ("option", (1, 1), (10, 3))),
             summed(("option", (1, 1), (2, 1)), ("option", (1, 1), (10, 3)))),
            (summed(capped(SHARE, (5, 1)), capped(SHARE, (5, 1))),
             summed(capped(SHARE, (5, 1)), capped(SHARE, (5, 1)))),
            (summed(capped(SHARE, (10, 3)), capped(SHARE, (9, 2)), capped(DUE, (1, 1)), SHARE),
             summed(SHARE, capped(DUE, (1, 1)), capped(SHARE, (9, 2)), capped(SHARE, (10, 3)))),
            (summed(summed(SHARE, summed(SHARE, NONE)), summed(DUE, SHARE)), summed(DUE, ("shares", (3, 1)))),
        ):
            self.assertEqual(tidied(claim), tidy)


if __name__ == "__main__":
    unittest.main()
