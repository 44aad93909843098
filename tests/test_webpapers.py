"""[26] what parts two rows, and [6]: there is a PARTING LOT, or the rows are one: never both."""

import itertools
import unittest

from making import ODD_VALUES, exchanged_deep, meant, source
from soldwhole.rows import greatest_row, least_row
from soldwhole.webpapers import is_parting_lot, parting_lot
from soldwhole.webs import is_clear
from test_rows import NO_AMOUNTS, RING, RING_CHOICES, drawn_webs
from webmaking import is_meant_right

NOUGHT, ONE = (0, 1), (1, 1)
SHARE = ("shares", ONE)


def is_meant_lot(web, one, other, row):
    """Whether a tuple of names of firms is a PARTING LOT, by its words."""
    unlike = [(name, holding[0]) for name, _, holdings in web
              for holding, low, high in zip(holdings, one[name], other[name]) if low != high]
    return bool(row) and list(row) == sorted(set(row)) and all(
        payer in row and holder in row for payer, holder in unlike
    ) and set(row) == {holder for _, holder in unlike} and all(
        sum(map(meant, one[name])) <= sum(map(meant, other[name])) for name in row
    )


class Lots(unittest.TestCase):
    def test_told_or_the_rows_are_one(self):
        kinds = {True: 0, False: 0}
        for web, amounts, choices in drawn_webs(260, 300):
            least, most = least_row(web, amounts, choices), greatest_row(web, amounts, choices)
            lot = parting_lot(web, least, most)
            self.assertEqual(lot is None, least == most)
            kinds[lot is None] += 1
            names = [firm[0] for firm in web]
            for many in range(len(names) + 1):
                for row in itertools.combinations(names, many):
                    self.assertIs(is_parting_lot(web, least, most, row), row == lot)
                    self.assertIs(is_parting_lot(web, least, most, row), is_meant_lot(web, least, most, row))
                    self.assertIs(is_parting_lot(web, least, least, row), False)
            if lot is not None:
                self.assertFalse(is_clear(web))
                self.check_firms(web, least, most, lot)
        self.assertTrue(all(many > 20 for many in kinds.values()), kinds)

    def check_firms(self, web, least, most, lot):
        """What it pays more it pays to itself alone; each of its firms gets more."""
        more = {name: 0 for name in lot}
        for name, _, holdings in web:
            for (holder, _), low, high in zip(holdings, least[name], most[name]):
                if low != high:
                    self.assertIn(name, lot)
                    more[holder] += meant(high) - meant(low)
        for name in lot:
            self.assertGreater(more[name], 0)
            self.assertEqual(more[name], sum(map(meant, most[name])) - sum(map(meant, least[name])))

    def test_between_the_least_and_the_greatest(self):
        """Half of what goes round is right as well, and parted from both by the same firms."""
        least, most = least_row(RING, NO_AMOUNTS, RING_CHOICES), greatest_row(RING, NO_AMOUNTS, RING_CHOICES)
        half = {"doe": (NOUGHT, (5, 2)), "cow": (NOUGHT, (5, 2))}
        self.assertTrue(is_meant_right(RING, NO_AMOUNTS, RING_CHOICES, half))
        for one, other in ((least, half), (half, most), (least, most)):
            self.assertIs(is_parting_lot(RING, one, other, ("cow", "doe")), True)
            self.assertIs(is_parting_lot(RING, other, one, ("cow", "doe")), False)
        self.assertEqual([parting_lot(RING, least, half), parting_lot(RING, half, half)], [("cow", "doe"), None])

    def rings(self):
        """Two rings of two firms, each owing the other 1 and 2."""
        web = tuple(
            (name, 1, (("ann", (SHARE,)), (other, (("due", 0, amount),))))
            for name, other, amount in (("asp", "bay", ONE), ("bay", "asp", ONE), ("cow", "doe", (2, 1)),
                                        ("doe", "cow", (2, 1)))
        )
        rows = [
            {name: (NOUGHT, first if name in ("asp", "bay") else second) for name, _, _ in web}
            for first in (NOUGHT, ONE) for second in (NOUGHT, (2, 1))
        ]
        return web, rows

    def test_a_firm_too_many_a_firm_too_few_out_of_order(self):
        web, (none, second, first, both) = self.rings()
        for one, other, lot in ((none, first, ("asp", "bay")), (none, second, ("cow", "doe")),
                                (none, both, ("asp", "bay", "cow", "doe")), (first, both, ("cow", "doe"))):
            self.assertEqual(parting_lot(web, one, other), lot)
            for many in range(5):
                for row in itertools.permutations(("asp", "bay", "cow", "doe"), many):
                    self.assertIs(is_parting_lot(web, one, other, row), row == lot)
                    self.assertIs(is_parting_lot(web, other, one, row), False)

    def test_of_rows_neither_of_which_is_less(self):
        web, (none, second, first, both) = self.rings()
        for row in (("asp", "bay"), ("cow", "doe"), ("asp", "bay", "cow", "doe"), ()):
            self.assertIs(is_parting_lot(web, first, second, row), False)
            self.assertIs(is_parting_lot(web, second, first, row), False)

    def test_without_firms(self):
        self.assertEqual([parting_lot((), {}, {}), is_parting_lot((), {}, {}, ()), is_parting_lot((), {}, {}, None)],
                         [None, False, False])

    def test_wrong_values(self):
        chance = source(261)
        least, most = least_row(RING, NO_AMOUNTS, RING_CHOICES), greatest_row(RING, NO_AMOUNTS, RING_CHOICES)
        right = ("cow", "doe")
        for thing in (*ODD_VALUES, list(right), ("doe", "cow"), ("cow",), ("cow", "doe", "doe"), ("cow", "doe", "ann"),
                      ("cow", ["doe"]), ("cow", {}), ("cow", 1), {"cow": 1, "doe": 1}, "cow", ("cow", "doe", None)):
            self.assertIs(is_parting_lot(RING, least, most, thing), False)
        for _ in range(500):
            thing = exchanged_deep(chance, right, (*ODD_VALUES, "cow", "doe", "cat", "elm"))
            self.assertIs(is_parting_lot(RING, least, most, thing), repr(thing) == repr(right))


if __name__ == "__main__":
    unittest.main()
