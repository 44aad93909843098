"""[37] papers of rounds."""

import unittest
from fractions import Fraction

from bounds import within
from making import ODD_VALUES, exchanged_deep, meant, source, told
from rounding import many_things, meant_shares, meant_worths, some_round
from soldwhole.errors import NoPrice
from soldwhole.roundpapers import counts_at, is_round_paper, parts_of, round_paper, things_behind
from soldwhole.rounds import is_round, price_of, worth_at, worths_at
from test_rounds import DEAL, NOTE, POOL, SHARES, with_things

NOUGHT, ONE, FOUR, HALF = (0, 1), (1, 1), (4, 1), (1, 2)
NONE = ((125, 1), *DEAL[1:])


def drawn(seed, many):
    """ROUNDS with a PRICE, and with their own."""
    chance = source(seed)
    for _ in range(many):
        deal = some_round(chance)
        if meant(deal[0]) > sum(meant_worths(deal, Fraction(0))):
            yield chance, deal, meant(price_of(deal))


class Counts(unittest.TestCase):
    def test_so_many_shares(self):
        for chance, deal, price in drawn(370, 200):
            for one in (price, Fraction(chance.randint(1, 50), 9)):
                counts = counts_at(deal, told(one))
                self.assertIsInstance(counts, tuple)
                self.assertEqual([meant(count) for count in counts[:-2]],
                                 [meant_shares(thing, one, meant(deal[1])) for thing in deal[2]])
                self.assertEqual(meant(counts[-2]), meant_worths(deal, one)[-1] / one)
                self.assertEqual(meant(counts[-1]), meant(deal[1]) / one)

    def test_parts_of_the_whole(self):
        for _, deal, price in drawn(371, 200):
            parts, counts = [meant(part) for part in parts_of(deal)], counts_at(deal, told(price))
            self.assertEqual(sum(parts), 1)
            whole = sum(map(meant, counts))
            self.assertEqual(parts, [meant(count) / whole for count in counts])
            self.assertEqual(parts[-1], meant(deal[1]) / (meant(deal[0]) + meant(deal[1])))
            self.assertGreaterEqual(parts[-2], meant(deal[3][1]))

    def test_edges(self):
        self.assertEqual(counts_at(with_things(), ONE), ((100, 1), NOUGHT, (500, 1)))
        self.assertEqual(counts_at(with_things(money=NOUGHT), (1, 1000)), ((100, 1), NOUGHT, NOUGHT))
        self.assertEqual(parts_of(with_things(money=NOUGHT)), (ONE, NOUGHT, NOUGHT))
        self.assertEqual(parts_of(with_things(pool=((100, 1), NOUGHT))), ((1, 3), (1, 3), (1, 3)))
        self.assertEqual(parts_of(DEAL), ((7, 12), (1, 12), NOUGHT, (1, 3)))

    def test_without_a_price(self):
        for call in (parts_of, things_behind, price_of):
            with self.assertRaises(NoPrice):
                call(NONE)
        self.assertEqual(counts_at(NONE, ONE), ((800, 1), (125, 1), NOUGHT, (500, 1)))


class Behind(unittest.TestCase):
    def test_what_is_there_behind(self):
        for _, deal, price in drawn(372, 200):
            counts = counts_at(deal, told(price))
            expected = [("shares", count) for count in counts[:-2] + counts[-1:] if count != NOUGHT]
            self.assertEqual(things_behind(deal), tuple(expected))

    def test_next_rounds(self):
        for _, deal, price in drawn(373, 100):
            behind, pool = things_behind(deal), counts_at(deal, told(price))[-2]
            worth = told((meant(deal[0]) + meant(deal[1])) * 2)
            further = (worth, (100, 1), behind, (pool, NOUGHT))
            self.assertIs(is_round(further), True)
            # All that is there is worth twice as much now: so is a share.
            self.assertEqual(meant(price_of(further)), 2 * price)
            with_notes = (worth, (100, 1), (*behind, ("note", ONE, FOUR, (1, 5))), (pool, (1, 5)))
            self.assertIs(is_round(with_notes), True)
            self.assertIs(is_round_paper(with_notes, round_paper(with_notes)), True)

    def test_without_new_money_and_of_the_pool_nothing(self):
        self.assertEqual(things_behind(with_things(money=NOUGHT)), (SHARES,))
        self.assertEqual(things_behind(with_things(pool=((100, 1), HALF), money=(20, 1)))[:1], (SHARES,))
        self.assertEqual(len(things_behind(with_things(pool=((100, 1), HALF), money=(20, 1)))), 2)
        self.assertEqual(things_behind(with_things()), (SHARES, ("shares", (50, 1))))


class Papers(unittest.TestCase):
    def test_just_one_for_each_round(self):
        chance = source(374)
        kinds = {True: 0, False: 0}
        for _ in range(200):
            deal = some_round(chance)
            paper = round_paper(deal)
            price, worths = paper
            self.assertIsInstance(paper, tuple)
            self.assertEqual(worths, worths_at(deal, price))
            self.assertIs(is_round_paper(deal, paper), True)
            kinds[price == NOUGHT] += 1
            if price != NOUGHT:
                self.assertEqual(price, price_of(deal))
            for other in (NOUGHT, ONE, told(meant(price) + 1), told(meant(price) / 2), told(2 * meant(price))):
                self.assertIs(is_round_paper(deal, (other, worths_at(deal, other))), other == price)
                self.assertIs(is_round_paper(deal, (price, worths_at(deal, other))), worths_at(deal, other) == worths)
                self.assertIs(is_round_paper(deal, (other, worths)), other == price)
        self.assertTrue(all(many > 30 for many in kinds.values()), kinds)

    def test_of_no_price(self):
        self.assertEqual(round_paper(NONE), (NOUGHT, (NOUGHT, (125, 1), NOUGHT)))
        self.assertIs(is_round_paper(NONE, round_paper(NONE)), True)
        for worth, right in (((124, 1), True), ((125, 1), True), ((126, 1), False), (ONE, True)):
            self.assertIs(is_round_paper((worth, *DEAL[1:]), round_paper(NONE)), right)

    def test_worths_that_only_add_up(self):
        self.assertIs(is_round_paper(DEAL, ((35, 32), ((865, 1), (135, 1), NOUGHT))), False)
        self.assertIs(is_round_paper(DEAL, ((35, 32), ((875, 1), NOUGHT, (125, 1)))), False)
        self.assertIs(is_round_paper(DEAL, ((35, 32), ((875, 1), (125, 1)))), False)
        self.assertIs(is_round_paper(DEAL, ((35, 32), ((875, 1), (125, 1), NOUGHT, NOUGHT))), False)

    def test_wrong_values(self):
        price, worths = paper = round_paper(DEAL)
        for thing in (
            *ODD_VALUES, list(paper), (price,), (*paper, None), (worths, price), (price, list(worths)), (price, None),
            (None, worths), ((70, 64), worths), ((-35, 32), worths), ((-1, 1), worths_at(DEAL, NOUGHT)), (1, worths),
            (price, (875, 125, 0)), (price, ((875, 1), (125, True), NOUGHT)), (price, ((875, 1), (125, 1), (False, 1))),
            (price, ((875, 1), (125, 1), (0, 2))), (price, ((875, 1), (125, 1), None)), ([35, 32], worths),
            (price, ((875, 1), (125, 1), [0, 1])), {price: worths}, (price, {0: worths}), ((10 ** 999, 1), worths),
            (price, tuple((n, 1) for n in (875, 125)) + (0,)), ((True, 1), worths_at(DEAL, ONE)),
        ):
            self.assertIs(is_round_paper(DEAL, thing), False, thing)
        one = (worth_at(DEAL, ONE), *DEAL[1:])
        self.assertIs(is_round_paper(one, (ONE, worths_at(one, ONE))), True)
        self.assertIs(is_round_paper(one, ((True, 1), worths_at(one, ONE))), False)
        self.assertIs(is_round_paper(one, ((1, True), worths_at(one, ONE))), False)

    def test_parts_exchanged(self):
        chance = source(375)
        for _ in range(300):
            deal = some_round(chance)
            paper = round_paper(deal)
            thing = exchanged_deep(chance, paper, (*ODD_VALUES, ONE, NOUGHT, HALF, POOL, NOTE))
            self.assertIs(is_round_paper(deal, thing), repr(thing) == repr(paper))


class Bounds(unittest.TestCase):
    def test_many_things(self):
        for many, digits in ((1000, 2), (60, 40)):
            deal = many_things(376, many, digits)
            with within(self):
                paper = round_paper(deal)
            with within(self):
                self.assertIs(is_round_paper(deal, paper), True)
            with within(self):
                self.assertEqual(len(things_behind(deal)), many + 1)
            with within(self):
                self.assertEqual(sum(map(meant, parts_of(deal))), 1)


if __name__ == "__main__":
    unittest.main()
