"""[15] curves led back."""

import unittest
from fractions import Fraction

from making import looked_at, meant, meant_pay, some_curve, source, told
from soldwhole.curvebacks import by_pay, first_over, is_under, level_for, same_up_to
from soldwhole.curves import added_up, capped, crossings, curve, greatest, nothing
from soldwhole.forms import is_curve

NOUGHT, ONE, TWO, THREE, FOUR = (0, 1), (1, 1), (2, 1), (3, 1), (4, 1)
START = (NOUGHT, NOUGHT)
DUE = curve([START, (ONE, FOUR)], NOUGHT)
SHARE = curve([START, (ONE, NOUGHT)], ONE)
STAIRS = curve([START, (ONE, ONE), (TWO, ONE), (THREE, TWO)], NOUGHT)


class Levels(unittest.TestCase):
    def test_the_least_level(self):
        chance = source(10)
        for _ in range(300):
            one = some_curve(chance)
            pays = {meant_pay(one, level) for level in looked_at([one])} | {Fraction(1, 7), Fraction(50)}
            for pay in pays:
                found = level_for(one, told(pay))
                if found is None:
                    self.assertEqual(one[1], NOUGHT)
                    self.assertLess(meant(one[0][-1][1]), pay)
                    continue
                self.assertEqual(meant_pay(one, meant(found)), pay)
                if found != NOUGHT:
                    self.assertLess(meant_pay(one, meant(found) - Fraction(1, 10 ** 6)), pay)

    def test_edges(self):
        self.assertEqual([level_for(nothing(), NOUGHT), level_for(nothing(), ONE), level_for(SHARE, NOUGHT)],
                         [NOUGHT, None, NOUGHT])
        self.assertEqual([level_for(STAIRS, one) for one in (ONE, (3, 2), TWO, (5, 2))], [ONE, (5, 2), THREE, None])
        self.assertEqual(level_for(SHARE, (10 ** 199, 3)), (10 ** 199 + 3, 3))


class ByPay(unittest.TestCase):
    def test_pay_by_pay(self):
        chance = source(11)
        kinds = {True: 0, False: 0}
        for _ in range(600):
            one, other = some_curve(chance), some_curve(chance)
            found = by_pay(one, other)
            self.check(found, one, other)
            kinds[found is None] += 1
            self.check(by_pay(added_up([one, other]), other), added_up([one, other]), other)
            self.assertIsNotNone(by_pay(added_up([one, other]), other))
        self.assertTrue(all(many > 50 for many in kinds.values()), kinds)

    def check(self, found, one, other):
        levels = looked_at([one, other])
        flat = [(low, high) for low, high in zip(levels, levels[1:]) if meant_pay(one, low) == meant_pay(one, high)]
        parted = [None for low, high in flat if meant_pay(other, low) != meant_pay(other, high)]
        if found is None:
            self.assertTrue(parted)
            return
        self.assertFalse(parted)
        self.assertTrue(is_curve(found))
        for level in levels:
            self.assertEqual(meant_pay(found, meant_pay(one, level)), meant_pay(other, level))
        if one[1] == NOUGHT:
            self.assertEqual(found[1], NOUGHT)
            self.assertEqual(meant_pay(found, meant(one[0][-1][1]) + 5), meant_pay(found, meant(one[0][-1][1])))

    def test_edges(self):
        self.assertEqual([by_pay(nothing(), nothing()), by_pay(SHARE, nothing())], [nothing()] * 2)
        self.assertEqual([by_pay(nothing(), SHARE), by_pay(SHARE, DUE)], [None, None])
        self.assertEqual(by_pay(DUE, DUE), ((START, (FOUR, FOUR)), NOUGHT))
        self.assertEqual(by_pay(SHARE, SHARE), ((START,), ONE))
        late = curve([START, ((5, 1), NOUGHT)], ONE)
        self.assertEqual([by_pay(DUE, late), by_pay(SHARE, late)], [None, ((START, (FOUR, NOUGHT)), ONE)])


class Ordered(unittest.TestCase):
    def test_two(self):
        chance = source(12)
        for _ in range(600):
            one, other = some_curve(chance), some_curve(chance)
            if chance.random() < 0.3:
                other = greatest([one, other])
            self.check(one, other)
            self.check(other, one)

    def check(self, one, other):
        levels = looked_at([one, other, greatest([one, other])], 60)
        rows = [(level, meant_pay(one, level), meant_pay(other, level)) for level in levels]
        over = [place for place, (_, pay, rival) in enumerate(rows) if pay > rival]
        self.assertIs(is_under(one, other), not over)
        self.check_first(first_over(one, other), rows, over, crossings(one, other))
        unlike = [place for place, (_, pay, rival) in enumerate(rows) if pay != rival]
        self.assertEqual(same_up_to(one, other) is None, one == other)
        self.check_first(same_up_to(one, other), rows, unlike, crossings(one, other))

    def check_first(self, found, rows, places, ends):
        """All up to the level is so, and it ends there; places are those at which it is not so."""
        if not places:
            self.assertIsNone(found)
            return
        self.assertIn(found, ends)
        self.assertEqual(meant(found), rows[places[0] - 1][0])

    def test_edges(self):
        line, steeper = curve([START], ONE), curve([START], TWO)
        self.assertEqual([first_over(steeper, line), first_over(line, steeper), first_over(line, line)],
                         [NOUGHT, None, None])
        self.assertEqual([same_up_to(line, steeper), same_up_to(line, line), same_up_to(nothing(), SHARE)],
                         [NOUGHT, None, ONE])
        self.assertEqual([same_up_to(line, capped(line, TWO)), first_over(line, capped(line, TWO))], [TWO, TWO])
        slow = curve([START], (1, 10))
        self.assertEqual([first_over(slow, DUE), first_over(DUE, slow), is_under(slow, DUE)], [(40, 1), NOUGHT, False])
        self.assertEqual([is_under(nothing(), slow), is_under(slow, nothing()), is_under(DUE, DUE)],
                         [True, False, True])


if __name__ == "__main__":
    unittest.main()
