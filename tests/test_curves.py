"""[13] curves made, [14] curves read and put together."""

import unittest
from fractions import Fraction

from making import looked_at, meant, meant_pay, some_curve, some_fraction, source, told
from soldwhole.curves import (
    added_up, capped, corners_many, crossings, curve, greatest, is_bounded, levels_of, most_of, nothing, pay_at,
    rises_at,
    rose_to, scaled,
)
from soldwhole.forms import is_curve

NOUGHT, ONE, TWO, THREE, FOUR = (0, 1), (1, 1), (2, 1), (3, 1), (4, 1)
START = (NOUGHT, NOUGHT)
DUE = curve([START, (ONE, FOUR)], NOUGHT)
SHARE = curve([START, (ONE, NOUGHT)], ONE)
GREAT = (10 ** 40 - 1, 10 ** 40 - 3)


class Made(unittest.TestCase):
    def test_couples_on_a_straight_stretch_are_left_out(self):
        couples = [START, ((1, 2), ONE), (ONE, TWO), ((3, 2), TWO), (TWO, TWO), (THREE, FOUR), (FOUR, (6, 1))]
        self.assertEqual(curve(couples, TWO), ((START, (ONE, TWO), (TWO, TWO)), TWO))
        self.assertEqual(curve(tuple(couples), ONE), ((START, (ONE, TWO), (TWO, TWO), (FOUR, (6, 1))), ONE))
        self.assertEqual(curve([START, (ONE, NOUGHT), (TWO, NOUGHT)], NOUGHT), nothing())
        self.assertEqual(curve([START], ONE), ((START,), ONE))
        self.assertEqual(curve([START, (ONE, ONE)], ONE), ((START,), ONE))
        self.assertEqual(len(couples), 7)

    def test_any_function_made_twice_is_one_curve(self):
        chance = source(4)
        for _ in range(200):
            one = some_curve(chance)
            self.assertTrue(is_curve(one))
            couples = [(told(level), told(meant_pay(one, level))) for level in looked_at([one])]
            self.assertEqual(curve(couples, one[1]), one)

    def test_what_it_tells(self):
        self.assertEqual(nothing(), ((START,), NOUGHT))
        self.assertEqual([corners_many(nothing()), corners_many(DUE)], [0, 1])
        self.assertEqual([levels_of([]), levels_of(()), levels_of([nothing()])], [(NOUGHT,)] * 3)
        self.assertEqual(levels_of((SHARE, curve([START, (THREE, ONE), (FOUR, FOUR)], NOUGHT), DUE)),
                         (NOUGHT, ONE, THREE, FOUR))
        self.assertEqual([is_bounded(DUE), is_bounded(SHARE), is_bounded(nothing())], [True, False, True])
        self.assertEqual([most_of(DUE), most_of(SHARE), most_of(nothing())], [FOUR, None, NOUGHT])


class Read(unittest.TestCase):
    def test_pays_and_slopes(self):
        chance = source(5)
        for _ in range(200):
            one = some_curve(chance)
            near = Fraction(1, 10 ** 6)
            for level in looked_at([one]):
                self.assertEqual(pay_at(one, told(level)), told(meant_pay(one, level)))
                up = (meant_pay(one, level + near) - meant_pay(one, level)) / near
                self.assertEqual(rises_at(one, told(level)), told(up))
                if level:
                    down = (meant_pay(one, level) - meant_pay(one, level - near)) / near
                    self.assertEqual(rose_to(one, told(level)), told(down))
            self.assertEqual(rose_to(one, NOUGHT), NOUGHT)

    def test_far_away(self):
        far = (10 ** 199, 7)
        self.assertEqual(pay_at(SHARE, far), told(meant(far) - 1))
        self.assertEqual([rises_at(SHARE, far), rose_to(SHARE, far), pay_at(DUE, far), rises_at(DUE, far)],
                         [ONE, ONE, FOUR, NOUGHT])

    def test_great_fractions(self):
        one = curve([START, (GREAT, (1, 10 ** 39)), ((10 ** 40, 3), GREAT)], (1, 10 ** 40 - 1))
        self.assertTrue(is_curve(one))
        for level in looked_at([one]):
            self.assertEqual(pay_at(one, told(level)), told(meant_pay(one, level)))


class Together(unittest.TestCase):
    def check(self, got, curves, combined):
        """Whether a curve has at all levels what its parts have combined."""
        self.assertTrue(is_curve(got), got)
        for level in looked_at([got, *curves], 60):
            self.assertEqual(meant_pay(got, level), combined([meant_pay(one, level) for one in curves]))

    def test_sums_and_greatest_ones(self):
        chance = source(6)
        for many in (0, 1, 2, 2, 2, 3, 5) * 30:
            curves = [some_curve(chance) for _ in range(many)]
            before = list(curves)
            self.check(added_up(curves), curves, sum)
            self.check(greatest(tuple(curves)), curves, lambda pays: max(pays, default=0))
            self.assertEqual([added_up(tuple(curves)), curves], [added_up(curves), before])
        self.assertEqual([added_up([]), added_up(()), greatest([]), greatest(())], [nothing()] * 4)
        self.assertEqual([added_up([DUE]), greatest([DUE, DUE]), added_up([nothing(), DUE])], [DUE] * 3)

    def test_bends_that_even_out_are_no_corners(self):
        later = curve([START, (ONE, NOUGHT), (TWO, FOUR)], NOUGHT)
        self.assertEqual(added_up([DUE, later]), ((START, (TWO, (8, 1))), NOUGHT))

    def test_caps(self):
        chance = source(7)
        for _ in range(200):
            one, amount = some_curve(chance), some_fraction(chance)
            self.check(capped(one, amount), [one], lambda pays: min(pays[0], meant(amount)))
        self.assertEqual([capped(SHARE, NOUGHT), capped(DUE, FOUR), capped(DUE, (5, 1))], [nothing(), DUE, DUE])
        stairs = curve([START, (ONE, ONE), (TWO, ONE), (THREE, TWO)], ONE)
        self.assertEqual(capped(stairs, ONE), ((START, (ONE, ONE)), NOUGHT))
        self.assertEqual(capped(stairs, FOUR), ((START, (ONE, ONE), (TWO, ONE), ((5, 1), FOUR)), NOUGHT))

    def test_scaled(self):
        chance = source(8)
        for _ in range(200):
            one, factor = some_curve(chance), some_fraction(chance)
            self.check(scaled(one, factor), [one], lambda pays: pays[0] * meant(factor))
        self.assertEqual([scaled(DUE, NOUGHT), scaled(DUE, ONE)], [nothing(), DUE])

    def test_crossings(self):
        chance = source(9)
        near = Fraction(1, 10 ** 6)
        for _ in range(400):
            one, other = some_curve(chance), some_curve(chance)
            told_levels = crossings(one, other)
            self.assertEqual(told_levels, crossings(other, one))

            def apart(level):
                return meant_pay(one, level) != meant_pay(other, level)

            def is_crossing(level):
                return not apart(level) and (apart(level + near) or (level > 0 and apart(level - near)))
            levels = looked_at([one, other, greatest([one, other])], 60)
            self.assertEqual(told_levels, tuple(told(level) for level in levels if is_crossing(level)))

    def test_crossings_named(self):
        self.assertEqual(crossings(DUE, DUE), ())
        self.assertEqual(crossings(nothing(), nothing()), ())
        self.assertEqual(crossings(nothing(), SHARE), (ONE,))
        touching = curve([START, (ONE, ONE), (TWO, TWO)], NOUGHT)
        tent = curve([START, (ONE, NOUGHT), (TWO, TWO), (THREE, TWO)], ONE)
        self.assertEqual(crossings(touching, tent), (NOUGHT, TWO, THREE))
        self.assertEqual(crossings(curve([START], ONE), curve([START], TWO)), (NOUGHT,))
        self.assertEqual(crossings(curve([START, ((1, 2), ONE)], NOUGHT), curve([START], (1, 10))), (NOUGHT, (10, 1)))


if __name__ == "__main__":
    unittest.main()
