"""[11] errors and fractions."""

import itertools
import unittest
from fractions import Fraction

from making import meant, source, told
from soldwhole.fractions import (
    added, ascending, compared, fraction_in, fraction_text, greatest_of, integer_in, integer_text, least_of, lessened,
    over, reduced, times, total,
)

GREAT = 10 ** 40 - 1
SOME = [told(Fraction(n, d)) for n in (0, 1, -1, 2, -3, 6, 35, GREAT, -GREAT) for d in (1, 2, 3, 6, 35, GREAT - 1)]


class Reckoning(unittest.TestCase):
    def test_reduced(self):
        for n, d in itertools.product((0, 1, -1, 6, -6, 15, GREAT), (1, -1, 4, -4, 10, GREAT)):
            self.assertEqual(reduced(n, d), told(Fraction(n, d)))
        self.assertEqual(reduced(0, -5), (0, 1))

    def test_two(self):
        for one, other in itertools.product(SOME, SOME):
            first, second = meant(one), meant(other)
            self.assertEqual(added(one, other), told(first + second))
            self.assertEqual(lessened(one, other), told(first - second))
            self.assertEqual(times(one, other), told(first * second))
            if second:
                self.assertEqual(over(one, other), told(first / second))
            self.assertEqual(compared(one, other), (first > second) - (first < second))
            self.assertIsNot(compared(one, other), True)

    def test_great_ones_however_near(self):
        """Of thousands of digits: unlike in the first ones, in the last ones alone, or not at all."""
        chance = source(12)
        near = {True: 0, False: 0}
        for _ in range(300):
            d, digits = chance.getrandbits(chance.choice((40, 1400, 1600, 6000))) + 1, chance.choice((1, 30, 36, 39, 500, 2000))
            first = Fraction(chance.getrandbits(chance.choice((1, 900, 6000, 9000))), d)
            beside = first * (1 + chance.choice((-1, 0, 1)) * Fraction(1, 10 ** digits + chance.randrange(99)))
            for second in (beside, -beside, Fraction(chance.getrandbits(3000), d + 1), Fraction(chance.randrange(9)), Fraction(0)):
                order = (first > second) - (first < second)
                self.assertEqual([compared(told(first), told(second)), compared(told(second), told(first))], [order, -order])
                self.assertEqual(compared(told(-first), told(-second)), -order)
                near[order == 0] += 1
        self.assertTrue(all(many > 100 for many in near.values()), near)

    def test_many(self):
        for place in range(len(SOME)):
            some = SOME[place:place + 7]
            self.assertEqual(least_of(some), told(min(map(meant, some))))
            self.assertEqual(greatest_of(tuple(some)), told(max(map(meant, some))))
            self.assertEqual(total(some), told(sum(map(meant, some))))
        self.assertEqual([total([]), total(()), total([(1, 2)]), least_of(((1, 2),)), greatest_of([(-1, 2)])],
                         [(0, 1), (0, 1), (1, 2), (1, 2), (-1, 2)])

    def test_ascending(self):
        self.assertEqual(ascending(SOME + SOME), [told(one) for one in sorted(set(map(meant, SOME)))])
        near = [(GREAT - 1, GREAT), (GREAT - 2, GREAT - 1), (1, 1)]
        self.assertEqual(ascending(near), [near[1], near[0], near[2]])
        self.assertEqual(ascending([(1, GREAT - 1), (1, GREAT)]), [(1, GREAT), (1, GREAT - 1)])
        self.assertEqual(ascending([]), [])

    def test_what_is_passed_stays(self):
        some = [(1, 2), (1, 3)]
        least_of(some), greatest_of(some), total(some), ascending(some)
        self.assertEqual(some, [(1, 2), (1, 3)])


class Texts(unittest.TestCase):
    def test_shown_and_read(self):
        for one in SOME:
            text = str(meant(one))
            self.assertEqual(fraction_text(one), text)
            self.assertEqual(fraction_in(text), one)

    def test_read_texts_are_shown_texts(self):
        signs = "0123-/ +"
        for many in range(5):
            for letters in itertools.product(signs, repeat=many):
                text = "".join(letters)
                one = fraction_in(text)
                if one is None:
                    self.assertFalse(self.is_text(text), text)
                else:
                    self.assertTrue(self.is_text(text), text)
                    self.assertEqual(fraction_text(one), text)

    def is_text(self, text):
        try:
            return str(Fraction(text)) == text
        except (ValueError, ZeroDivisionError):
            return False

    def test_texts_of_none(self):
        for text in ("", "-", "/", "1/", "/2", "+1", " 1", "1 ", "1\n", "01", "-0", "0/1", "0/2", "2/4", "3/1", "3/0",
                     "3/-2", "1/02", "--1", "1/2/3", "1_0", "1.0", "1e3", "a", "\u0661", "\u00b2", "1/\u0662",
                     "\uff11"):
            self.assertIsNone(fraction_in(text), text)

    def test_forty_digits(self):
        forty, more = "9" * 40, "9" * 41
        self.assertEqual(fraction_in(forty), (GREAT, 1))
        self.assertEqual(fraction_in("-" + forty), (-GREAT, 1))
        self.assertEqual(fraction_in("1" + "0" * 39 + "/" + forty), (10 ** 39, GREAT))
        self.assertEqual(fraction_in("-" + forty + "/1" + "0" * 39), (-GREAT, 10 ** 39))
        for text in (more, "-" + more, "1/" + more, more + "/2", "1" + "0" * 40, "1/1" + "0" * 40, "9" * 3000):
            self.assertIsNone(fraction_in(text), text)

    def test_integers(self):
        self.assertEqual([integer_in("0"), integer_in("-7"), integer_in("-07"), integer_in("7 ")], [0, -7, None, None])
        self.assertEqual([integer_in(str(10 ** 39)), integer_in(str(10 ** 40))], [10 ** 39, None])

    def test_integers_of_any_size_are_shown(self):
        for n in (0, 7, -7, 10 ** 60, 2 ** 3000, 2 ** 3000 - 1, -(2 ** 3001), 7 ** 4000, 10 ** 4000):
            self.assertEqual(integer_text(n), str(n))
        self.assertEqual(integer_text(10 ** 9000 + 3), "1" + "0" * 8999 + "3")
        self.assertEqual(fraction_text((-1, 10 ** 5000)), "-1/1" + "0" * 5000)


if __name__ == "__main__":
    unittest.main()
