"""[22] papers of levels."""

import unittest
from fractions import Fraction

from making import ODD_VALUES, exchanged_deep, looked_at, meant, meant_pay, source, told
from soldwhole.curves import curve, nothing
from soldwhole.levelpapers import are_paid, is_level_paper, level_paper, parting_of
from soldwhole.onefirm import level_of, payments
from test_onefirm import amounts_of, some_curves

NOUGHT, ONE, TWO, FOUR = (0, 1), (1, 1), (2, 1), (4, 1)
START = (NOUGHT, NOUGHT)
DUE = curve([START, (ONE, FOUR)], NOUGHT)
SHARE = curve([START, (ONE, NOUGHT)], ONE)
BOTH = curve([START, (ONE, FOUR), ((5, 1), FOUR)], ONE)
TINY = Fraction(1, 10 ** 6)
OTHERS = (*ODD_VALUES, NOUGHT, ONE, TWO, 2, None, (1, 2), (-1, 1))


def meant_paper(curves, amount, level, index):
    """Whether a level and an index are a LEVEL PAPER, by its words."""
    if sum((meant_pay(one, level) for one in curves), Fraction(0)) != amount:
        return False
    if level == 0:
        return index is None
    if index is None or not 0 <= index < len(curves):
        return False
    return meant_pay(curves[index], level - min(TINY, level / 2)) < meant_pay(curves[index], level)


class Papers(unittest.TestCase):
    def test_the_least_index(self):
        chance = source(210)
        for _ in range(150):
            curves = some_curves(chance)
            for amount in amounts_of(curves):
                found = level_paper(curves, told(amount))
                self.assertEqual(found is None, level_of(curves, told(amount)) is None)
                if found is None:
                    continue
                self.assertIs(is_level_paper(curves, told(amount), found), True)
                level, index = found
                self.assertEqual(level, level_of(curves, told(amount)))
                self.assertEqual(index is None, level == NOUGHT)
                for lower in range(index or 0):
                    self.assertIs(is_level_paper(curves, told(amount), (level, lower)), False)

    def test_all_levels_and_indexes(self):
        chance = source(211)
        kinds = {True: 0, False: 0}
        for _ in range(60):
            curves = some_curves(chance)
            amounts = amounts_of(curves)
            for amount in chance.sample(amounts, min(3, len(amounts))):
                for level in looked_at(curves):
                    for index in (None, *range(-1, len(curves) + 1)):
                        right = meant_paper(curves, amount, level, index)
                        self.assertIs(is_level_paper(curves, told(amount), (told(level), index)), right)
                        kinds[right] += 1
        self.assertTrue(all(many > 100 for many in kinds.values()), kinds)

    def test_edges(self):
        curves = (SHARE, BOTH)
        self.assertEqual([level_paper((), NOUGHT), level_paper((), ONE), level_paper([nothing()], NOUGHT)],
                         [(NOUGHT, None), None, (NOUGHT, None)])
        self.assertEqual([is_level_paper((), NOUGHT, (NOUGHT, None)), is_level_paper((), NOUGHT, (ONE, None)),
                          is_level_paper((), ONE, (NOUGHT, None))], [True, False, False])
        self.assertIs(is_level_paper((DUE,), FOUR, (TWO, 0)), False)
        self.assertIs(is_level_paper((DUE,), FOUR, (ONE, 0)), True)
        self.assertIs(is_level_paper((DUE,), FOUR, (ONE, None)), False)
        self.assertIs(is_level_paper(curves, (10, 1), ((6, 1), 1)), True)
        self.assertEqual([is_level_paper(curves, (8, 1), ((5, 1), index)) for index in (0, 1, 2, -2, None, True, False)],
                         [True, False, False, False, False, False, False])
        self.assertEqual([is_level_paper(curves, NOUGHT, (NOUGHT, index)) for index in (None, 0, 1)],
                         [True, False, False])

    def test_wrong_values(self):
        chance = source(212)
        curves = (SHARE, BOTH)
        for amount in (NOUGHT, FOUR, (10, 1), (8, 1)):
            right = level_paper(curves, amount)
            for thing in (*ODD_VALUES, list(right), right + (None,), right[:1], (list(right[0]), right[1])):
                self.assertIs(is_level_paper(curves, amount, thing), False)
            for _ in range(400):
                thing = exchanged_deep(chance, right, OTHERS)
                found = is_level_paper(curves, amount, thing)
                self.assertIs(found, repr(thing) == repr(right) or self.other_right(amount, thing))

    def other_right(self, amount, thing):
        """At 10 both curves rise just below the level."""
        return amount == (10, 1) and repr(thing) == repr(((6, 1), 1))


class Paid(unittest.TestCase):
    def test_the_payments_alone(self):
        chance = source(213)
        for _ in range(100):
            curves = some_curves(chance)
            for amount in amounts_of(curves)[:6] + [Fraction(100)]:
                pays = payments(curves, told(amount))
                if pays is None:
                    last = tuple(one[0][-1][1] for one in curves)
                    self.assertIs(are_paid(curves, told(amount), last), False)
                    continue
                self.assertIs(are_paid(curves, told(amount), pays), True)
                if len(pays) > 1:
                    shifted = (told(meant(pays[0]) + 1), told(meant(pays[1]) - 1), *pays[2:])
                    self.assertIs(are_paid(curves, told(amount), shifted), False)

    def test_edges(self):
        self.assertEqual([are_paid((), NOUGHT, ()), are_paid((), ONE, ()), are_paid((), NOUGHT, (NOUGHT,))],
                         [True, False, False])
        self.assertEqual([are_paid((nothing(),), NOUGHT, (NOUGHT,)), are_paid((nothing(),), NOUGHT, ())],
                         [True, False])
        self.assertEqual([are_paid((DUE,), (5, 1), (FOUR,)), are_paid((DUE,), (5, 1), ((5, 1),)),
                          are_paid((DUE,), FOUR, (FOUR,))], [False, False, True])

    def test_wrong_values(self):
        chance = source(214)
        curves, right = (SHARE, BOTH), (TWO, FOUR)
        for thing in (*ODD_VALUES, list(right), right + (NOUGHT,), right[:1], (TWO, [4, 1]), ((4, 2), FOUR),
                      ((2, True), FOUR), {0: TWO, 1: FOUR}, None):
            self.assertIs(are_paid(curves, (6, 1), thing), False)
        for _ in range(500):
            thing = exchanged_deep(chance, right, OTHERS)
            self.assertIs(are_paid(curves, (6, 1), thing), repr(thing) == repr(right))


class Partings(unittest.TestCase):
    def test_what_each_is_paid_more(self):
        chance = source(215)
        for _ in range(150):
            curves = some_curves(chance)
            paid = [amount for amount in amounts_of(curves) if level_of(curves, told(amount)) is not None]
            low, high = sorted((chance.choice(paid), chance.choice(paid)))
            found = parting_of(curves, told(low), told(high))
            self.assertIsInstance(found, tuple)
            before, behind = payments(curves, told(low)), payments(curves, told(high))
            self.assertEqual(found, tuple(told(meant(more) - meant(less)) for less, more in zip(before, behind)))
            self.assertTrue(all(one[0] >= 0 for one in found))
            self.assertEqual(sum(map(meant, found)), high - low)

    def test_edges(self):
        self.assertEqual([parting_of((), NOUGHT, NOUGHT), parting_of((DUE, SHARE), ONE, ONE)], [(), (NOUGHT, NOUGHT)])
        self.assertEqual(parting_of([DUE, SHARE], NOUGHT, (6, 1)), (FOUR, TWO))


if __name__ == "__main__":
    unittest.main()
