"""[25] linear rows."""

import unittest
from fractions import Fraction

from making import meant, some_fraction, source, told
from soldwhole.solving import solved

NOUGHT, ONE, TWO = (0, 1), (1, 1), (2, 1)


def some_entry(chance):
    n, d = some_fraction(chance, 5)
    return chance.choice((NOUGHT, (n, d), (-n, d)))


def some_rows(chance, many):
    return [tuple(some_entry(chance) for _ in range(many)) for _ in range(many)]


def rank_of(rows):
    """How many of the rows hang on no others, told by Python's fractions."""
    left, rank = [[meant(one) for one in row] for row in rows], 0
    for column in range(len(rows)):
        lead = next((row for row in left if row[column] != 0), None)
        if lead is not None:
            left = [[one - other * row[column] / lead[column] for one, other in zip(row, lead)]
                    for row in left if row is not lead]
            rank += 1
    return rank


class Solved(unittest.TestCase):
    def check(self, rows, right):
        found = solved(rows, right)
        if rank_of(rows) < len(rows):
            self.assertIsNone(found)
            return False
        self.assertIsInstance(found, tuple)
        self.assertEqual(len(found), len(rows))
        for row, one in zip(rows, right):
            self.assertEqual(sum((meant(entry) * meant(x) for entry, x in zip(row, found)), Fraction(0)), meant(one))
        self.assertEqual(tuple(told(meant(x)) for x in found), found)
        return True

    def test_any(self):
        chance = source(240)
        kinds = {True: 0, False: 0}
        for _ in range(500):
            many = chance.randint(0, 6)
            rows = some_rows(chance, many)
            if many > 1 and chance.random() < 0.4:
                # One row made of others: with several solutions, or with none.
                first, other = chance.sample(range(many), 2)
                rows[first] = tuple(told(meant(one) * 3) for one in rows[other])
            right = [some_entry(chance) for _ in range(many)]
            kinds[self.check(tuple(rows), tuple(right))] += 1
            self.assertEqual(solved(rows, right), solved(tuple(rows), tuple(right)))
        self.assertTrue(all(many > 100 for many in kinds.values()), kinds)

    def test_edges(self):
        self.assertEqual([solved((), ()), solved([], []), solved(((TWO,),), (ONE,)), solved([(ONE,)], [NOUGHT])],
                         [(), (), ((1, 2),), (NOUGHT,)])
        self.assertEqual([solved(((NOUGHT,),), (NOUGHT,)), solved(((NOUGHT,),), (ONE,))], [None, None])
        several, none = ((ONE, TWO), (TWO, (4, 1))), ((ONE, ONE), (ONE, ONE))
        self.assertEqual([solved(several, (ONE, TWO)), solved(none, (ONE, TWO))], [None, None])
        self.assertEqual(solved(((NOUGHT, ONE), (ONE, NOUGHT)), (ONE, TWO)), (TWO, ONE))
        self.assertEqual(solved((((-1, 2), NOUGHT), (NOUGHT, (-2, 3))), (ONE, ONE)), ((-2, 1), (-3, 2)))
        turned = ((NOUGHT, NOUGHT, ONE), (NOUGHT, (-1, 1), NOUGHT), (TWO, NOUGHT, NOUGHT))
        self.assertEqual(solved(turned, (ONE, ONE, ONE)), ((1, 2), (-1, 1), ONE))
        late = ((ONE, ONE, ONE), (ONE, ONE, TWO), (ONE, TWO, ONE))
        self.assertEqual(solved(late, (ONE, TWO, (3, 1))), ((-2, 1), TWO, ONE))

    def test_great_numbers_and_many_rows(self):
        chance = source(241)
        for many, digits in ((2, 200), (6, 200), (20, 3)):
            rows = [tuple(told(Fraction(chance.randint(-10 ** digits, 10 ** digits), chance.randint(1, 10 ** digits)))
                          for _ in range(many)) for _ in range(many)]
            self.assertTrue(self.check(rows, [ONE] * many))
            rows[-1] = rows[0]
            self.assertIsNone(solved(rows, [ONE] * many))

    def test_what_is_passed_stays(self):
        rows, right = [(NOUGHT, ONE), (ONE, ONE)], [ONE, TWO]
        self.assertEqual(solved(rows, right), (ONE, ONE))
        self.assertEqual((rows, right), ([(NOUGHT, ONE), (ONE, ONE)], [ONE, TWO]))


if __name__ == "__main__":
    unittest.main()
