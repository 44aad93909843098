"""[36] rounds of new money, and [10]: one price at which all is worth what was agreed, or none."""

import unittest
from fractions import Fraction

from bounds import within
from making import ODD_VALUES, exchanged_deep, looked_at, meant, meant_pay, source, told
from rounding import many_things, meant_shares, meant_worth, meant_worths, some_round, some_thing
from soldwhole.curves import pay_at
from soldwhole.errors import NoPrice
from soldwhole.forms import is_curve, is_fraction
from soldwhole.rounds import is_round, price_of, worth_at, worth_curve, worths_at

NOUGHT, ONE, FOUR, HALF = (0, 1), (1, 1), (4, 1), (1, 2)
START = (NOUGHT, NOUGHT)
SHARES, POOL = ("shares", (100, 1)), (NOUGHT, NOUGHT)
NOTE = ("note", (100, 1), ONE, (1, 5))
DEAL = ((1000, 1), (500, 1), (("shares", (800, 1)), NOTE), POOL)
TINY = Fraction(1, 10 ** 9)


def with_things(*things, worth=(1000, 1), money=(500, 1), pool=POOL):
    return (worth, money, (SHARES, *things), pool)


def prices_of(deal):
    """Prices at and between all bends, and beyond."""
    return looked_at([worth_curve(deal)])


class Worths(unittest.TestCase):
    def test_by_the_words(self):
        chance = source(360)
        for _ in range(200):
            deal = some_round(chance)
            for price in prices_of(deal):
                worths = worths_at(deal, told(price))
                self.assertIsInstance(worths, tuple)
                self.assertEqual([meant(worth) for worth in worths], meant_worths(deal, price))
                self.assertEqual(meant(worth_at(deal, told(price))), sum(meant_worths(deal, price)))
                self.assertTrue(all(is_fraction(worth) for worth in worths))

    def test_a_worth_is_the_price_times_the_shares(self):
        chance = source(361)
        for _ in range(300):
            thing, money, price = some_thing(chance), Fraction(chance.randint(0, 9)), Fraction(chance.randint(1, 40), 7)
            deal = with_things(thing, money=told(money))
            self.assertEqual(meant(worths_at(deal, told(price))[1]), price * meant_shares(thing, price, money))

    def test_the_pool_is_filled_up_to_its_part_of_the_whole(self):
        chance, filled = source(362), 0
        for _ in range(200):
            deal = some_round(chance)
            for price in prices_of(deal)[1:]:
                worths = [meant(worth) for worth in worths_at(deal, told(price))]
                part = worths[-1] / (sum(worths) + meant(deal[1]))
                self.assertGreaterEqual(part, meant(deal[3][1]))
                self.assertGreaterEqual(worths[-1], price * meant(deal[3][0]))
                self.assertTrue(part == meant(deal[3][1]) or worths[-1] == price * meant(deal[3][0]))
                filled += part == meant(deal[3][1]) > 0
        self.assertGreater(filled, 100)

    def test_notes_with_a_cap_a_discount_both_and_none(self):
        for cap, discount, worths in (
            (None, None, [100, 100, 100, 100]), (None, (1, 5), [125, 125, 125, 125]), (None, NOUGHT, [100] * 4),
            (ONE, None, [100, 100, 200, 100]), (ONE, (1, 5), [125, 125, 200, 125]), (FOUR, HALF, [200, 200, 200, 200]),
            ((1, 10), (9, 10), [1000, 1000, 2000, 1000]), ((1, 5), (1, 5), [125, 500, 1000, 125]),
        ):
            deal = with_things(("note", (100, 1), cap, discount))
            self.assertEqual([meant(worths_at(deal, price)[1]) for price in (NOUGHT, ONE, (2, 1), (1, 5))], worths)

    def test_shares_kept_and_weighed(self):
        deal = with_things(("kept", (50, 1), FOUR), ("weighed", (50, 1), FOUR, (75, 1)), money=(100, 1))
        self.assertEqual([worths_at(deal, price)[1:3] for price in (NOUGHT, (2, 1), FOUR, (5, 1))], [
            ((200, 1), (50, 1)), ((200, 1), (125, 1)), ((200, 1), (200, 1)), ((250, 1), (250, 1)),
        ])
        # Without new money nothing is put right by weights: so it is worth as many shares as ever.
        none = with_things(("weighed", (50, 1), FOUR, (75, 1)), money=NOUGHT)
        self.assertEqual([worths_at(none, price)[1] for price in (NOUGHT, ONE, FOUR)], [NOUGHT, (50, 1), (200, 1)])

    def test_pools(self):
        for pool, worths in (
            (POOL, [0, 0, 0]), (((50, 1), NOUGHT), [0, 50, 500]), ((NOUGHT, HALF), [500, 600, 1500]),
            (((700, 1), HALF), [500, 700, 7000]), (((1, 1), (1, 10)), [Fraction(500, 9), Fraction(600, 9), Fraction(1500, 9)]),
        ):
            deal = with_things(pool=pool)
            self.assertEqual([meant(worths_at(deal, price)[-1]) for price in (NOUGHT, ONE, (10, 1))], worths)


class Curves(unittest.TestCase):
    def test_the_worth_at_each_price(self):
        chance, corners = source(363), 0
        for _ in range(200):
            deal = some_round(chance)
            found = worth_curve(deal)
            self.assertTrue(is_curve(found))
            least = sum(meant_worths(deal, Fraction(0)))
            for price in [*prices_of(deal), Fraction(1, 1000), Fraction(10 ** 6)]:
                self.assertEqual(meant_pay(found, price), sum(meant_worths(deal, price)) - least)
            corners += len(found[0]) - 1
        self.assertGreater(corners, 200)

    def test_edges(self):
        self.assertEqual(worth_curve(DEAL), ((START, ((5, 4), (1000, 1))), (900, 1)))
        self.assertEqual(worth_curve(with_things()), ((START,), (100, 1)))
        self.assertEqual(worth_curve(with_things(("note", ONE, None, HALF))), ((START,), (100, 1)))
        # Bends of two things at one price, which make up for none.
        bent = with_things(("kept", (50, 1), FOUR), ("note", (200, 1), FOUR, None))
        self.assertEqual(worth_curve(bent), ((START, (FOUR, (400, 1))), (200, 1)))
        # Own shares of the pool come to be more than what fills it up, or never, or at once.
        self.assertEqual(worth_curve(with_things(pool=((200, 1), HALF))), ((START, ((5, 1), (1000, 1))), (300, 1)))
        self.assertEqual(worth_curve(with_things(pool=((100, 1), HALF))), ((START,), (200, 1)))
        self.assertEqual(worth_curve(with_things(pool=((200, 1), HALF), money=NOUGHT)), ((START,), (300, 1)))
        self.assertEqual(worth_curve(with_things(("weighed", (50, 1), FOUR, (75, 1)), money=NOUGHT)), ((START,), (150, 1)))


class Prices(unittest.TestCase):
    def test_one_price_or_none(self):
        chance = source(364)
        kinds = {True: 0, False: 0}
        for _ in range(500):
            deal = some_round(chance)
            worth, least = meant(deal[0]), sum(meant_worths(deal, Fraction(0)))
            if worth <= least:
                with self.assertRaises(NoPrice):
                    price_of(deal)
                kinds[False] += 1
                continue
            price = price_of(deal)
            self.assertGreater(meant(price), 0)
            self.assertEqual(worth_at(deal, price), deal[0])
            self.assertLess(sum(meant_worths(deal, meant(price) - min(TINY, meant(price)))), worth)
            self.assertGreater(sum(meant_worths(deal, meant(price) + TINY)), worth)
            self.assertEqual(pay_at(worth_curve(deal), price), told(worth - least))
            kinds[True] += 1
        self.assertTrue(all(many > 100 for many in kinds.values()), kinds)

    def test_a_price_where_something_bends(self):
        for price in (ONE, FOUR, (5, 4), (125, 16)):
            deal = with_things(NOTE, ("kept", ONE, FOUR), ("weighed", ONE, ONE, ONE), pool=((80, 1), HALF))
            deal = (worth_at(deal, price), *deal[1:])
            self.assertEqual(price_of(deal), price)

    def test_a_worth_at_which_there_is_just_none_and_a_little_more(self):
        for deal in (DEAL, with_things(("kept", FOUR, FOUR), pool=((3, 1), HALF)), with_things(NOTE, NOTE)):
            least = worth_at(deal, NOUGHT)
            for worth in (least, told(meant(least) - TINY), (1, 10 ** 39)):
                with self.assertRaises(NoPrice):
                    price_of((worth, *deal[1:]))
            deal = (told(meant(least) + TINY), *deal[1:])
            self.assertLess(meant(price_of(deal)), TINY)
            self.assertEqual(worth_at(deal, price_of(deal)), deal[0])

    def test_edges(self):
        self.assertEqual([price_of(DEAL), price_of((*DEAL[:3], (NOUGHT, (1, 10))))], [(35, 32), (29, 32)])
        self.assertEqual([price_of(with_things()), price_of(with_things(money=NOUGHT))], [(10, 1), (10, 1)])
        self.assertEqual(price_of(with_things(pool=((100, 1), NOUGHT))), (5, 1))
        self.assertEqual(price_of(with_things(worth=(1, 10 ** 39))), (1, 10 ** 41))
        self.assertEqual(price_of(with_things(worth=(10 ** 39, 1))), (10 ** 37, 1))
        with self.assertRaises(NoPrice):
            price_of(with_things(pool=(NOUGHT, (2, 3))))
        self.assertEqual(price_of(with_things(pool=(NOUGHT, (2, 3)), money=(250, 1))), ((5, 3)))


class Forms(unittest.TestCase):
    def test_rounds(self):
        chance = source(365)
        for _ in range(100):
            self.assertIs(is_round(some_round(chance)), True)
        for deal in (DEAL, with_things(), with_things(money=NOUGHT), with_things(SHARES, ("note", ONE, None, None)),
                     (ONE, NOUGHT, (NOTE, SHARES, NOTE), ((3, 2), (99, 100))), with_things(("note", ONE, None, NOUGHT))):
            self.assertIs(is_round(deal), True)

    def test_things_that_are_none(self):
        for thing in (
            *ODD_VALUES, ("shares",), ("shares", NOUGHT), ("shares", (-1, 1)), ("shares", 1), ("shares", ONE, ONE),
            ["shares", ONE], ("share", ONE), ("note", ONE), ("note", ONE, ONE), ("note", NOUGHT, ONE, HALF),
            ("note", ONE, NOUGHT, HALF), ("note", ONE, (-1, 1), HALF), ("note", ONE, ONE, ONE), ("note", ONE, ONE, (3, 2)),
            ("note", ONE, ONE, (-1, 2)), ("note", ONE, False, HALF), ("note", ONE, ONE, 0), ("note", ONE, ONE, (2, 4)),
            ("note", None, ONE, HALF), ("note", ONE, ONE, HALF, HALF), ("note", ONE, ONE, False), ("kept", ONE),
            ("kept", ONE, NOUGHT), ("kept", NOUGHT, ONE), ("kept", ONE, None), ("kept", ONE, ONE, ONE),
            ("weighed", ONE, ONE), ("weighed", ONE, ONE, NOUGHT), ("weighed", ONE, NOUGHT, ONE),
            ("weighed", NOUGHT, ONE, ONE), ("weighed", ONE, ONE, None), ("weighed", ONE, ONE, ONE, ONE),
            (True, ONE), ((), ONE), (["shares"], ONE), ("shares", (True, 1)), ("shares", [1, 1]),
        ):
            self.assertIs(is_round(with_things(thing)), False, thing)

    def test_what_is_no_round(self):
        worth, money, things, pool = DEAL
        for thing in (
            *ODD_VALUES, list(DEAL), DEAL[:3], (*DEAL, pool), (NOUGHT, money, things, pool), ((-1, 1), *DEAL[1:]),
            (1000, *DEAL[1:]), (None, *DEAL[1:]), (worth, (-1, 1), things, pool), (worth, 0, things, pool),
            (worth, False, things, pool), (worth, money, list(things), pool), (worth, money, (), pool),
            (worth, money, (NOTE,), pool), (worth, money, things[0], pool), (worth, money, (NOTE, ("kept", ONE, ONE)), pool),
            (worth, money, things, list(pool)), (worth, money, things, ()), (worth, money, things, (NOUGHT,)),
            (worth, money, things, (NOUGHT, ONE)), (worth, money, things, (NOUGHT, (-1, 2))),
            (worth, money, things, ((-1, 1), NOUGHT)), (worth, money, things, (0, NOUGHT)), (worth, money, things, None),
            (worth, money, things, (*pool, NOUGHT)), (worth, money, things, (NOUGHT, (9, 8))),
            (worth, money, None, pool), (worth, money, {"shares": ONE}, pool), (worth, money, "shares", pool),
        ):
            self.assertIs(is_round(thing), False, thing)

    def test_parts_exchanged(self):
        chance = source(366)
        kinds = {True: 0, False: 0}
        for _ in range(1500):
            deal = some_round(chance)
            others = (ONE, NOUGHT, HALF, FOUR, None)
            thing = exchanged_deep(chance, deal, chance.choice((others, (*ODD_VALUES, *others, NOTE, SHARES))))
            found = is_round(thing)
            if found:
                self.assertEqual([meant(worth) for worth in worths_at(thing, ONE)], meant_worths(thing, Fraction(1)))
            kinds[found] += 1
        self.assertTrue(all(many > 30 for many in kinds.values()), kinds)


class Bounds(unittest.TestCase):
    def test_many_things(self):
        for many, digits in ((1000, 2), (60, 40), (200, 12)):
            deal = many_things(367, many, digits)
            self.assertIs(is_round(deal), True)
            with within(self):
                price = price_of(deal)
            with within(self):
                self.assertEqual(worth_at(deal, price), deal[0])
            with within(self):
                self.assertTrue(is_curve(worth_curve(deal)))

    def test_worths_of_many_things(self):
        deal = many_things(368, 500, 10)
        with within(self):
            worths = worths_at(deal, (7, 3))
        self.assertEqual([meant(worth) for worth in worths[:-1]],
                         [meant_worth(thing, Fraction(7, 3), meant(deal[1])) for thing in deal[2]])


if __name__ == "__main__":
    unittest.main()
