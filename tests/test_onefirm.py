"""[21] one firm, and [5]: what the steps of a waterfall pay, the curves pay at one level."""

import unittest
from fractions import Fraction

from bounds import great_claim, within
from making import above_zero, looked_at, meant, meant_pay, some_claim, some_curve, source, told
from soldwhole.claims import options_curve
from soldwhole.curves import added_up, corners_many, curve, nothing
from soldwhole.forms import is_curve
from soldwhole.onefirm import amount_for, by_amount, level_of, order_of, payments
from soldwhole.waterfalls import level_reached, paid_out

NOUGHT, ONE, TWO, FOUR = (0, 1), (1, 1), (2, 1), (4, 1)
START = (NOUGHT, NOUGHT)
DUE = curve([START, (ONE, FOUR)], NOUGHT)
SHARE = curve([START, (ONE, NOUGHT)], ONE)
LATE = curve([START, ((3, 1), NOUGHT), ((5, 1), TWO)], NOUGHT)
TINY = Fraction(1, 10 ** 6)


def some_curves(chance):
    """CURVES with bounded ones, flat stretches, ones that pay nothing, and the same one twice."""
    curves = [some_curve(chance) for _ in range(chance.randint(0, 4))]
    if curves and chance.random() < 0.3:
        curves.append(curves[0])
    if chance.random() < 0.2:
        curves.append(nothing())
    return curves


def meant_sum(curves, level):
    return sum((meant_pay(one, level) for one in curves), Fraction(0))


def amounts_of(curves):
    """Amounts at the corners of all CURVES, between them, beyond, and 0."""
    return sorted({meant_sum(curves, level) for level in looked_at(curves)} | {Fraction(0), Fraction(100)})


class Levels(unittest.TestCase):
    def test_the_least_level_and_the_pays_there(self):
        chance = source(200)
        never = 0
        for _ in range(200):
            curves = some_curves(chance)
            for amount in amounts_of(curves):
                level = level_of(curves, told(amount))
                if level is None:
                    self.assertIsNone(payments(curves, told(amount)))
                    self.assertEqual(sum(meant(one[1]) for one in curves), 0)
                    self.assertLess(meant_sum(curves, looked_at(curves)[-1]), amount)
                    never += 1
                    continue
                self.assertEqual(meant_sum(curves, meant(level)), amount)
                if level != NOUGHT:
                    self.assertLess(meant_sum(curves, meant(level) - TINY), amount)
                pays = payments(tuple(curves), told(amount))
                self.assertEqual(pays, tuple(told(meant_pay(one, meant(level))) for one in curves))
        self.assertGreater(never, 50)

    def test_edges(self):
        self.assertEqual([level_of((), NOUGHT), payments([], NOUGHT), level_of((), ONE), payments([], ONE)],
                         [NOUGHT, (), None, None])
        self.assertEqual([level_of([nothing()], NOUGHT), payments([nothing()], NOUGHT), level_of([nothing()], ONE)],
                         [NOUGHT, (NOUGHT,), None])
        self.assertEqual([level_of([LATE], NOUGHT), level_of([DUE, LATE], FOUR), level_of([DUE, LATE], (6, 1))],
                         [NOUGHT, ONE, (5, 1)])
        self.assertIsNone(level_of([DUE, LATE], (600001, 100000)))
        self.assertEqual([payments([DUE, LATE], (5, 1)), payments([DUE, DUE], (3, 1))],
                         [(FOUR, ONE), ((3, 2), (3, 2))])
        self.assertEqual(level_of((SHARE,), (10 ** 199, 3)), (10 ** 199 + 3, 3))


class ByAmount(unittest.TestCase):
    def test_at_each_amount(self):
        chance = source(201)
        for _ in range(200):
            curves = some_curves(chance)
            found = by_amount(curves)
            self.assertIsInstance(found, tuple)
            self.assertEqual(len(found), len(curves))
            corners = sum(corners_many(one) for one in curves)
            self.assertTrue(all(is_curve(one) and corners_many(one) <= corners for one in found))
            for amount in amounts_of(curves):
                pays = payments(curves, told(amount))
                if pays is None:
                    pays = tuple(told(meant_pay(one, looked_at(curves)[-1])) for one in curves)
                else:
                    self.assertEqual(meant_sum(found, amount), amount)
                self.assertEqual(tuple(told(meant_pay(one, amount)) for one in found), pays)

    def test_edges(self):
        self.assertEqual([by_amount(()), by_amount([]), by_amount((nothing(),))], [(), (), (nothing(),)])
        self.assertEqual(by_amount((SHARE,)), (((START,), ONE),))
        half = ((START,), (1, 2))
        self.assertEqual(by_amount([SHARE, SHARE]), (half, half))
        self.assertEqual(by_amount([LATE, DUE]), (
            ((START, (FOUR, NOUGHT), ((6, 1), TWO)), NOUGHT), ((START, (FOUR, FOUR)), NOUGHT),
        ))


class AmountFor(unittest.TestCase):
    def test_the_least_amount(self):
        chance = source(202)
        for _ in range(200):
            curves = some_curves(chance)
            found = by_amount(curves)
            for index, one in enumerate(found):
                for pay in {meant_pay(curves[index], level) for level in looked_at(curves)} | {Fraction(100, 7)}:
                    amount = amount_for(curves, index, told(pay))
                    if amount is None:
                        self.assertEqual(curves[index][1], NOUGHT)
                        self.assertLess(meant(curves[index][0][-1][1]), pay)
                        continue
                    self.assertEqual(meant_pay(one, meant(amount)), pay)
                    if pay > 0:
                        self.assertLess(meant_pay(one, meant(amount) - min(TINY, meant(amount) / 2)), pay)
                    else:
                        self.assertEqual(amount, NOUGHT)

    def test_edges(self):
        curves = (SHARE, DUE, nothing(), LATE)
        self.assertEqual([amount_for(curves, index, NOUGHT) for index in range(4)], [NOUGHT] * 4)
        self.assertEqual([amount_for(curves, index, ONE) for index in range(4)], [(5, 1), ONE, None, (8, 1)])
        self.assertEqual([amount_for(curves, 1, FOUR), amount_for(curves, 1, (401, 100))], [FOUR, None])
        self.assertEqual([amount_for(curves, 3, TWO), amount_for(curves, 3, (3, 1))], [(10, 1), None])


class Orders(unittest.TestCase):
    def test_by_the_amount_from_which_on(self):
        chance = source(203)
        for _ in range(300):
            curves = some_curves(chance)
            found = by_amount(curves)
            begins = []
            for index, one in enumerate(found):
                amounts = [amount for amount in amounts_of(curves) if meant_pay(one, amount) == 0]
                if len(amounts) < len(amounts_of(curves)):
                    begins.append((amounts[-1], index))
            self.assertEqual(order_of(curves), [index for _, index in sorted(begins)])

    def test_edges(self):
        self.assertEqual([order_of(()), order_of([nothing()]), order_of([nothing(), SHARE])], [[], [], [1]])
        self.assertEqual(order_of((LATE, SHARE, DUE, SHARE, nothing(), DUE)), [2, 5, 1, 3, 0])


class Both(unittest.TestCase):
    def test_steps_and_curves_agree(self):
        chance = source(204)
        for _ in range(150):
            ranks = chance.randint(0, 4)
            papers = tuple(
                tuple(some_claim(chance, ranks) for _ in range(chance.choice((1, 1, 2))))
                for _ in range(chance.randint(0, 4))
            )
            curves = [options_curve(ranks, paper) for paper in papers]
            for amount in amounts_of(curves) + [meant(above_zero(chance, 30))]:
                pays = payments(curves, told(amount))
                if pays is None:
                    last = told(meant_sum(curves, looked_at(curves)[-1]))
                    self.assertEqual(paid_out(ranks, papers, told(amount)), payments(curves, last))
                else:
                    self.assertEqual(paid_out(ranks, papers, told(amount)), pays)
                    self.assertEqual(level_reached(ranks, papers, told(amount)), level_of(curves, told(amount)))


class Bounds(unittest.TestCase):
    def test_thirty_papers_of_six_great_claims(self):
        chance = source(205)
        papers = tuple(tuple(great_claim(chance, 6) for _ in range(6)) for _ in range(30))
        with within(self):
            curves = [options_curve(6, paper) for paper in papers]
            found = by_amount(curves)
            self.assertEqual(len(order_of(curves)), 30)
            for amount in ((0, 1), (1, 3), (997, 1), (10 ** 6, 7)):
                pays = payments(curves, amount)
                self.assertEqual(pays, tuple(told(meant_pay(one, meant(amount))) for one in found))
                self.assertEqual(pays, paid_out(6, papers, amount))


class Kept(unittest.TestCase):
    def test_what_is_passed_stays_and_what_is_told_is_new(self):
        curves = [SHARE, DUE, LATE]
        first = (order_of(curves), by_amount(curves), payments(curves, (5, 1)))
        order_of(curves).append(7)
        self.assertEqual(curves, [SHARE, DUE, LATE])
        self.assertEqual((order_of(curves), by_amount(curves), payments(curves, (5, 1))), first)
        self.assertEqual(added_up(curves), added_up(tuple(curves)))


if __name__ == "__main__":
    unittest.main()
