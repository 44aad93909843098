"""[25] rows of payments, and [6]: in a CLEAR web there is one row, otherwise a least one and a greatest one."""

import unittest
from fractions import Fraction

from bounds import great_amounts, great_web, within
from making import ODD_VALUES, meant, source, told
from soldwhole.claims import claims_in
from soldwhole.errors import NotFounded
from soldwhole.rows import are_right, greatest_row, has_of, least_row, levels_of
from soldwhole.webs import is_clear, is_founded
from webmaking import (
    cleared_web, is_meant_right, meant_has, meant_levels, near_has, some_amounts, some_choices, some_clear_web,
    some_rings, some_web,
)

NOUGHT, ONE = (0, 1), (1, 1)
SHARE, FIVE = ("shares", ONE), ("due", 0, (5, 1))
RING = (("cow", 1, (("cat", (SHARE,)), ("doe", (FIVE,)))), ("doe", 1, (("dan", (SHARE,)), ("cow", (FIVE,)))))
RING_CHOICES = {"cow": (0, None), "doe": (0, None)}
NO_AMOUNTS = {"cow": NOUGHT, "doe": NOUGHT}


def drawn_webs(seed, many):
    """Webs of three kinds, with AMOUNTS and CHOICES."""
    chance = source(seed)
    for place in range(many):
        web = (some_web, some_clear_web, some_rings)[place % 3](chance)
        amounts = some_amounts(chance, web, 8)
        if chance.random() < (0.7 if place % 3 == 2 else 0.1):
            # Where nothing comes in, something may go round.
            amounts = {name: NOUGHT for name in amounts}
        yield web, amounts, some_choices(chance, web)


class Rows(unittest.TestCase):
    def test_both_are_right(self):
        kinds = {True: 0, False: 0}
        for web, amounts, choices in drawn_webs(250, 240):
            least, most = least_row(web, amounts, choices), greatest_row(web, amounts, choices)
            for row in (least, most):
                self.assertEqual(list(row), [firm[0] for firm in web])
                self.assertTrue(is_meant_right(web, amounts, choices, row))
                self.assertIs(are_right(web, amounts, choices, row), True)
            self.assertTrue(all(meant(low) <= meant(high) for name in least
                                for low, high in zip(least[name], most[name])))
            if is_clear(web):
                self.assertEqual(least, most)
            kinds[least == most] += 1
        self.assertTrue(all(many > 10 for many in kinds.values()), kinds)

    def test_none_is_less_and_none_is_more(self):
        """Whoever begins with nothing comes to the least row, round by round, who begins with much to the greatest."""
        for web, amounts, choices in drawn_webs(251, 60):
            for begin, row in ((0.0, least_row(web, amounts, choices)), (900.0, greatest_row(web, amounts, choices))):
                near, has = near_has(web, amounts, choices, begin), meant_has(web, amounts, row)
                for name in has:
                    self.assertAlmostEqual(near[name], float(has[name]), 4)

    def test_all_that_persons_get_is_what_comes_in(self):
        for web, amounts, choices in drawn_webs(252, 40):
            names = [firm[0] for firm in web]
            for row in (least_row(web, amounts, choices), greatest_row(web, amounts, choices)):
                paid = sum(meant(pay) for name, _, holdings in web for (holder, _), pay in zip(holdings, row[name])
                           if holder not in names)
                self.assertEqual(paid, sum(map(meant, amounts.values())))


class Rings(unittest.TestCase):
    def test_one_ring(self):
        least, most = (row(RING, NO_AMOUNTS, RING_CHOICES) for row in (least_row, greatest_row))
        self.assertEqual(least, {"cow": (NOUGHT, NOUGHT), "doe": (NOUGHT, NOUGHT)})
        self.assertEqual(most, {"cow": (NOUGHT, (5, 1)), "doe": (NOUGHT, (5, 1))})
        half = {"cow": (NOUGHT, (5, 2)), "doe": (NOUGHT, (5, 2))}
        self.assertIs(are_right(RING, NO_AMOUNTS, RING_CHOICES, half), True)
        self.assertIs(are_right(RING, NO_AMOUNTS, RING_CHOICES, {**half, "doe": (NOUGHT, (2, 1))}), False)
        for amounts, row in (
            ({"cow": ONE, "doe": NOUGHT}, {"cow": (ONE, (5, 1)), "doe": (NOUGHT, (5, 1))}),
            ({"cow": (1, 9), "doe": (7, 1)}, {"cow": ((1, 9), (5, 1)), "doe": ((7, 1), (5, 1))}),
        ):
            self.assertEqual(least_row(RING, amounts, RING_CHOICES), row)
            self.assertEqual(greatest_row(RING, amounts, RING_CHOICES), row)

    def test_two_rings_and_one_that_leaks(self):
        """Of two rings side by side one has something come in; of a third one a part goes to a person."""
        firms = []
        for one, other in (("asp", "bay"), ("cow", "doe"), ("elm", "fox")):
            firms.append((one, 2, (("ann", (SHARE,)), (other, (FIVE,)))))
            leak = (("bob", (("due", 0, ONE),)),) if one == "elm" else ()
            firms.append((other, 2, (("ann", (SHARE,)), (one, (("due", 0, (3, 1)),))) + leak))
        web = tuple(firms)
        amounts = {name: ONE if name == "asp" else NOUGHT for name, _, _ in web}
        choices = {"asp": (0, None), "bay": (0, None), "cow": (0, None), "doe": (0, None), "elm": (0, None),
                   "fox": (0, None, 0)}
        least, most = least_row(web, amounts, choices), greatest_row(web, amounts, choices)
        self.assertEqual(least, {"asp": (NOUGHT, (4, 1)), "bay": (ONE, (3, 1)), "cow": (NOUGHT, NOUGHT),
                                 "doe": (NOUGHT, NOUGHT), "elm": (NOUGHT, NOUGHT), "fox": (NOUGHT, NOUGHT, NOUGHT)})
        self.assertEqual(most, {**least, "cow": (NOUGHT, (3, 1)), "doe": (NOUGHT, (3, 1))})

    def test_nearly_all_comes_back(self):
        """Of what asp has a millionth goes to ann: the rest comes back from bay, until that has come to 6."""
        web = (("asp", 0, (("ann", (SHARE,)), ("bay", (("capped", ("shares", (10 ** 6, 1)), (6, 1)),)))),
               ("bay", 1, (("bob", (SHARE,)), ("asp", (("due", 0, (6, 1)),)))))
        choices = {"asp": (0, None), "bay": (0, None)}
        for amounts, row in (
            ({"asp": NOUGHT, "bay": NOUGHT}, {"asp": (NOUGHT, NOUGHT), "bay": (NOUGHT, NOUGHT)}),
            ({"asp": (1, 10 ** 6), "bay": NOUGHT}, {"asp": ((1, 10 ** 6), ONE), "bay": (NOUGHT, ONE)}),
            ({"asp": ONE, "bay": NOUGHT}, {"asp": (ONE, (6, 1)), "bay": (NOUGHT, (6, 1))}),
            ({"asp": NOUGHT, "bay": ONE},
             {"asp": ((6, 1000001), (6000000, 1000001)), "bay": ((999995, 1000001), (6, 1))}),
        ):
            self.assertEqual(least_row(web, amounts, choices), row)
            self.assertEqual(greatest_row(web, amounts, choices), row)

    def test_a_ring_of_many_corners(self):
        """Dues of all ranks round in a ring of six firms: nothing comes in, and all may go round."""
        names = ("asp", "bay", "cow", "doe", "elm", "fox")
        web = tuple(
            (name, 6, (("ann", (SHARE,)), *[(names[(place + 1) % 6], (("due", rank, (rank + place + 1, 1)),))
                                            for rank in range(4)]))
            for place, name in enumerate(names)
        )
        amounts, choices = {name: NOUGHT for name in names}, {name: (0,) + (None,) * 4 for name in names}
        least, most = least_row(web, amounts, choices), greatest_row(web, amounts, choices)
        self.assertEqual({pay for name in names for pay in least[name]}, {NOUGHT})
        # All that goes round is what the firm with the least dues pays in all: 1, 2, 3 and 4.
        self.assertEqual({sum(map(meant, most[name])) for name in names}, {Fraction(10)})
        self.assertTrue(is_meant_right(web, amounts, choices, most))

    def test_amounts_of_nought(self):
        for web, _, choices in drawn_webs(253, 60):
            amounts = {name: NOUGHT for name, _, _ in web}
            least = least_row(web, amounts, choices)
            self.assertEqual({pay for name in least for pay in least[name]} | {NOUGHT}, {NOUGHT})


class Told(unittest.TestCase):
    def test_has_and_levels(self):
        for web, amounts, choices in drawn_webs(254, 90):
            for row in (least_row(web, amounts, choices), greatest_row(web, amounts, choices)):
                has = has_of(web, amounts, row)
                self.assertEqual(list(has), [firm[0] for firm in web])
                self.assertEqual({name: meant(one) for name, one in has.items()}, meant_has(web, amounts, row))
                found = levels_of(web, choices, row)
                self.assertEqual(list(found), [firm[0] for firm in web])
                self.assertEqual(found, meant_levels(web, choices, row))

    def test_has_of_payments_that_are_not_right(self):
        web = (("asp", 0, (("ann", (SHARE,)), ("bay", (SHARE,)), ("bay", (SHARE,)))),
               ("bay", 0, (("asp", (SHARE,)), ("ann", (SHARE,)))))
        row = {"bay": ((7, 1), (9, 1)), "asp": (ONE, (2, 1), (1, 3))}
        self.assertEqual(has_of(web, {"bay": ONE, "asp": (1, 2)}, row), {"asp": (15, 2), "bay": (10, 3)})

    def test_levels_on_a_flat_stretch_are_the_least(self):
        web = (("asp", 3, (("ann", (SHARE,)), ("bob", (("due", 0, (4, 1)), ("due", 2, (4, 1)))))),)
        for pick, level in ((0, ONE), (1, (3, 1))):
            choices = {"asp": (0, pick)}
            row = least_row(web, {"asp": (4, 1)}, choices)
            self.assertEqual(row, {"asp": (NOUGHT, (4, 1))})
            self.assertEqual(levels_of(web, choices, row), {"asp": level})

    def test_without_firms(self):
        for row in (least_row((), {}, {}), greatest_row((), {}, {}), has_of((), {}, {}), levels_of((), {}, {})):
            self.assertEqual(row, {})
        self.assertEqual([are_right((), {}, {}, {}), are_right((), {}, {}, ()), are_right((), {}, {}, {"a": ()})],
                         [True, False, False])

    def test_not_founded(self):
        web = (("asp", 0, (("ann", (SHARE,)),)), ("bay", 0, (("asp", (SHARE,)),)), ("cow", 0, ()))
        amounts = {"asp": ONE, "bay": ONE, "cow": ONE}
        for row in (least_row, greatest_row):
            with self.assertRaises(NotFounded) as caught:
                row(web, amounts, {"asp": (0,), "bay": (None,), "cow": ()})
            self.assertEqual(caught.exception.name, "bay")


class Right(unittest.TestCase):
    def test_what_is_not_right(self):
        chance = source(255)
        for web, amounts, choices in drawn_webs(256, 90):
            row = least_row(web, amounts, choices)
            for _ in range(6):
                name = chance.choice(list(row))
                place = chance.randrange(len(row[name]))
                entries = list(row[name])
                entries[place] = chance.choice((ONE, NOUGHT, (1, 7), told(meant(entries[place]) + 1)))
                thing = {**row, name: tuple(entries)}
                self.assertIs(are_right(web, amounts, choices, thing), is_meant_right(web, amounts, choices, thing))
            self.assertIs(are_right(web, {**amounts, name: told(meant(amounts[name]) + 1)}, choices, row), False)

    def test_pays_that_come_to_what_is_had_but_at_no_level(self):
        web = (("asp", 0, (("ann", (SHARE,)), ("bob", (SHARE,)))),)
        amounts, choices = {"asp": (2, 1)}, {"asp": (0, 0)}
        self.assertIs(are_right(web, amounts, choices, {"asp": (ONE, ONE)}), True)
        self.assertIs(are_right(web, amounts, choices, {"asp": (NOUGHT, (2, 1))}), False)
        self.assertIs(are_right(web, amounts, choices, {"asp": (ONE, NOUGHT)}), False)

    def test_wrong_values(self):
        row = least_row(RING, NO_AMOUNTS, RING_CHOICES)
        for thing in (*ODD_VALUES, {"cow": row["cow"]}, {**row, "elm": ()}, {**row, "cow": list(row["cow"])},
                      {**row, "cow": (NOUGHT,)}, {**row, "cow": (NOUGHT,) * 3}, {**row, "cow": ((0, 2), NOUGHT)},
                      {**row, "cow": ((False, 1), NOUGHT)}, {**row, "cow": ((-5, 1), (-5, 1))}, list(row.items()),
                      {**row, "cow": (0, 0)}, {**row, "cow": None}, tuple(row)):
            self.assertIs(are_right(RING, NO_AMOUNTS, RING_CHOICES, thing), False)


class Bounds(unittest.TestCase):
    def test_great_webs(self):
        web = great_web(257, clear=False)
        claims = [claim for _, _, holdings in web for _, options in holdings for claim in options]
        self.assertEqual([len(web), sum(len(firm[2]) for firm in web)], [6, 30])
        self.assertTrue(50 < max(map(claims_in, claims)) <= 60)
        for seed in range(8):
            web = great_web(seed, clear=seed % 2 == 0)
            self.assertTrue(is_founded(web))
            amounts = great_amounts(seed)
            choices = some_choices(source(seed), web)
            with within(self):
                least, most = least_row(web, amounts, choices), greatest_row(web, amounts, choices)
            for row in (least, most):
                self.assertTrue(is_meant_right(web, amounts, choices, row))
            if is_clear(web):
                self.assertEqual(least, most)

    def test_long_fractions(self):
        """Amounts of 200 digits, claims of 40."""
        chance = source(258)
        for seed in range(3):
            web = cleared_web(chance, tuple(long_firm(chance, firm) for firm in some_web(chance, 4, 4)))
            amounts = {name: long_fraction(chance, 200) for name, _, _ in web}
            choices = some_choices(chance, web)
            with within(self):
                row = least_row(web, amounts, choices)
                self.assertEqual(row, greatest_row(web, amounts, choices))
            self.assertTrue(is_meant_right(web, amounts, choices, row))


def long_fraction(chance, digits):
    return told(Fraction(chance.randint(1, 10 ** digits - 1), chance.randint(1, 10 ** digits - 1)))


def long_claim(chance, claim):
    if claim[0] == "none":
        return claim
    if claim[0] == "sum":
        return ("sum", tuple(long_claim(chance, part) for part in claim[1]))
    if claim[0] == "capped":
        return ("capped", long_claim(chance, claim[1]), long_fraction(chance, 40))
    if claim[0] == "due":
        return (*claim[:2], long_fraction(chance, 40))
    return (claim[0], *[long_fraction(chance, 40) for _ in claim[1:]])


def long_firm(chance, firm):
    name, ranks, holdings = firm
    return (name, ranks, tuple((holder, tuple(long_claim(chance, one) for one in options))
                               for holder, options in holdings))


if __name__ == "__main__":
    unittest.main()
