"""[20] waterfalls, and with it [5] as far as it is written: the steps pay what the curves pay at one level."""

import unittest
from fractions import Fraction

from making import above_zero, claim_pay, looked_at, meant, meant_pay, nested, some_claim, some_fraction, source, told
from soldwhole.claims import options_curve
from soldwhole.curvebacks import level_for
from soldwhole.curves import added_up, most_of, pay_at
from soldwhole.waterfalls import claim_now, left_over, level_reached, paid_out, paper_now, steps

SHARE, DUE, NONE = ("shares", (1, 1)), ("due", 0, (4, 1)), ("none",)
NOUGHT, ONE = (0, 1), (1, 1)
NEAR = Fraction(1, 10 ** 9)


def some_papers(chance, ranks):
    sizes = [chance.choice((1, 1, 2, 3)) for _ in range(chance.randint(0, 4))]
    return tuple(tuple(some_claim(chance, ranks) for _ in range(size)) for size in sizes)


class Now(unittest.TestCase):
    def test_claims(self):
        chance = source(60)
        for _ in range(300):
            ranks = chance.randint(0, 6)
            claim = some_claim(chance, ranks, 5)
            for level in looked_at([options_curve(ranks, (claim,))]) + [meant(some_fraction(chance))]:
                pay = claim_pay(ranks, claim, level)
                rate = (claim_pay(ranks, claim, level + NEAR) - pay) / NEAR
                self.assertEqual(claim_now(ranks, claim, told(level)), (told(pay), told(rate)))

    def test_papers(self):
        chance = source(61)
        for _ in range(200):
            ranks = chance.randint(0, 6)
            paper = tuple(some_claim(chance, ranks) for _ in range(chance.randint(1, 4)))
            for level in looked_at([options_curve(ranks, paper)]):
                pay, more = (max(claim_pay(ranks, claim, at) for claim in paper) for at in (level, level + NEAR))
                self.assertEqual(paper_now(ranks, paper, told(level)), (told(pay), told((more - pay) / NEAR)))

    def test_edges(self):
        due = ("due", 1, (3, 1))
        self.assertEqual([claim_now(2, due, told(Fraction(n, 2))) for n in (0, 1, 2, 3, 4, 9)],
                         [(NOUGHT, NOUGHT), (NOUGHT, NOUGHT), (NOUGHT, (3, 1)), ((3, 2), (3, 1)), ((3, 1), NOUGHT),
                          ((3, 1), NOUGHT)])
        self.assertEqual([claim_now(6, SHARE, (n, 1)) for n in (5, 6, 7)],
                         [(NOUGHT, NOUGHT), (NOUGHT, ONE), (ONE, ONE)])
        self.assertEqual([claim_now(0, ("option", (2, 1), (1, 2)), told(Fraction(n, 4))) for n in (1, 2, 3)],
                         [(NOUGHT, NOUGHT), (NOUGHT, (2, 1)), ((1, 2), (2, 1))])
        self.assertEqual(claim_now(0, ("capped", NONE, ONE), ONE), (NOUGHT, NOUGHT))
        self.assertEqual(claim_now(0, ("capped", ("capped", SHARE, (2, 1)), ONE), (3, 1)), (ONE, NOUGHT))
        self.assertEqual(claim_now(0, nested(800, SHARE), (6, 1)), ((5, 1), NOUGHT))
        self.assertEqual(claim_now(0, nested(800, SHARE, "sum"), (6, 1)), ((6, 1), ONE))
        self.assertEqual(paper_now(1, (DUE, ("sum", (DUE, NONE)), SHARE), (5, 1)), ((4, 1), ONE))


class Steps(unittest.TestCase):
    def test_any(self):
        chance = source(62)
        for _ in range(400):
            ranks = chance.choice((0, 0, 1, 2, 3, 6))
            papers = some_papers(chance, ranks)
            curves = [options_curve(ranks, paper) for paper in papers]
            for amount in self.amounts(chance, curves):
                self.check(ranks, papers, curves, amount)

    def amounts(self, chance, curves):
        """0, amounts at bends and between, and beyond what is ever paid."""
        whole = added_up(curves)
        pays = [pay for _, pay in whole[0]]
        between = [told((meant(low) + meant(high)) / 2) for low, high in zip(pays, pays[1:])]
        return pays + between + [told(meant(pays[-1]) + 7), above_zero(chance, 20)]

    def check(self, ranks, papers, curves, amount):
        found = steps(ranks, papers, amount)
        paid, whole = paid_out(ranks, papers, amount), added_up(curves)
        level = level_for(whole, amount)
        if level is None:
            level = level_for(whole, most_of(whole))
            self.assertEqual(left_over(ranks, papers, amount), told(meant(amount) - meant(most_of(whole))))
        else:
            self.assertEqual(left_over(ranks, papers, amount), NOUGHT)
        self.assertEqual(paid, tuple(pay_at(one, level) for one in curves))
        self.assertEqual(level_reached(ranks, papers, amount), level)
        self.check_steps(found, curves, papers)
        self.assertEqual(steps(ranks, papers, amount), found)

    def check_steps(self, found, curves, papers):
        rates, reached = None, Fraction(0)
        for first, last, paid in found:
            first, last = meant(first), meant(last)
            self.assertLess(first, last)
            self.assertLessEqual(reached, first)
            self.assertEqual(len(paid), len(papers))
            now = [meant(one) / (last - first) for one in paid]
            self.assertTrue(any(now))
            for place, one in enumerate(curves):
                self.assertEqual(meant_pay(one, reached), meant_pay(one, first))
                for part in (Fraction(1, 3), Fraction(1)):
                    level = first + (last - first) * part
                    self.assertEqual(meant_pay(one, level) - meant_pay(one, first), now[place] * (level - first))
            if reached == first:
                self.assertNotEqual(now, rates, "a step goes on as far as all rates stay")
            rates, reached = now, last

    def test_rates_that_stay_are_one_step(self):
        paper = (("sum", (DUE, ("due", 1, (4, 1)))),)
        self.assertEqual(steps(2, (paper,), (7, 1)), [(NOUGHT, (7, 4), ((7, 1),))])
        self.assertEqual(steps(2, (paper, (DUE,)), (9, 1)), [(NOUGHT, ONE, ((4, 1), (4, 1))),
                                                             (ONE, (5, 4), (ONE, NOUGHT))])
        apart = ((("due", 0, (4, 1)),), (("due", 1, (4, 1)),))
        self.assertEqual(steps(2, apart, (8, 1)), [(NOUGHT, ONE, ((4, 1), NOUGHT)), (ONE, (2, 1), (NOUGHT, (4, 1)))])

    def test_no_rate_above_nought(self):
        papers = ((("due", 1, (4, 1)),), (("due", 4, (2, 1)), NONE), (("option", ONE, (3, 1)),))
        self.assertEqual(steps(6, papers, (7, 1)), [
            ((1, 1), (2, 1), ((4, 1), NOUGHT, NOUGHT)), ((4, 1), (5, 1), (NOUGHT, (2, 1), NOUGHT)),
            ((9, 1), (10, 1), (NOUGHT, NOUGHT, ONE)),
        ])
        self.assertEqual([level_reached(6, papers, (6, 1)), level_reached(6, papers, (4, 1))], [(5, 1), (2, 1)])
        self.assertEqual([steps(6, papers[:2], (9, 1))[-1][1], left_over(6, papers[:2], (9, 1))], [(5, 1), (3, 1)])

    def test_nothing_to_pay(self):
        for papers in ((), ((NONE,),), ((SHARE,), (DUE,))):
            self.assertEqual(steps(1, papers, NOUGHT), [])
            self.assertEqual(paid_out(1, papers, NOUGHT), (NOUGHT,) * len(papers))
            self.assertEqual([level_reached(1, papers, NOUGHT), left_over(1, papers, NOUGHT)], [NOUGHT, NOUGHT])
        for papers in ((), ((NONE,), (("capped", NONE, ONE),))):
            self.assertEqual([steps(6, papers, ONE), left_over(6, papers, ONE), level_reached(6, papers, ONE)],
                             [[], ONE, NOUGHT])

    def test_a_claim_that_overtakes_another(self):
        paper = (("capped", ("shares", (4, 1)), (4, 1)), ("shares", (2, 1)), SHARE)
        self.assertEqual(steps(0, (paper,), (7, 1)), [(NOUGHT, ONE, ((4, 1),)), ((2, 1), (7, 2), ((3, 1),))])
        same = (("option", (2, 1), ONE), ("option", ONE, ONE))
        self.assertEqual(steps(0, (same,), (4, 1)), [(ONE, (3, 1), ((4, 1),))])

    def test_what_is_told_is_new(self):
        papers = ((SHARE,),)
        steps(0, papers, ONE).append(1)
        self.assertEqual(steps(0, papers, ONE), [(NOUGHT, ONE, (ONE,))])


if __name__ == "__main__":
    unittest.main()
