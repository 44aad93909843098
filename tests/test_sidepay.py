"""[39] side payments."""

import itertools
import unittest
from fractions import Fraction

from bounds import great_amounts, great_web, within
from making import ODD_VALUES, meant, source, told
from offering import (
    drawn, is_meant_carried, many_losers, meant_gains, meant_willing, some_classes,
)
from soldwhole.forms import is_fraction
from soldwhole.offers import gainers, losers
from soldwhole.sidepay import bearers, is_side_pay, least_side_pay, side_sum
from test_offers import CLASSES, HALF, NOUGHT, OFFERED, ONE, STANDS, WEB

TINY = Fraction(1, 10 ** 9)


def lost_in(changes):
    return {person: -change for person, change in changes.items() if change < 0}


def is_meant(web, one, other, classes, side):
    """Whether a dict from losers to fractions of Python's is a SIDE PAYMENT, by the words of the promise."""
    changes = meant_gains(web, one, other)
    losses, gained = lost_in(changes), sum(change for change in changes.values() if change > 0)
    if not all(person in losses and pay >= losses[person] for person, pay in side.items()):
        return False
    willing = meant_willing(web, one, other, classes)
    return sum(side.values()) <= gained and is_meant_carried(classes, willing | set(side))


def all_sides(losses):
    """All dicts from some losers to what they lose."""
    for many in range(len(losses) + 1):
        for persons in itertools.combinations(sorted(losses), many):
            yield {person: losses[person] for person in persons}


class Least(unittest.TestCase):
    def test_against_all_groups_of_losers(self):
        kinds = {"none": 0, "no need": 0, "some": 0}
        for _, web, one, other, classes in drawn(390, 250):
            sums = [sum(side.values()) for side in all_sides(lost_in(meant_gains(web, one, other)))
                    if is_meant(web, one, other, classes, side)]
            found = least_side_pay(web, one, other, classes)
            if found is None:
                self.assertEqual(sums, [])
                kinds["none"] += 1
                continue
            self.assertEqual(meant(side_sum(found)), min(sums))
            self.assertIs(is_side_pay(web, one, other, classes, found), True)
            self.assertTrue(is_meant(web, one, other, classes, {name: meant(pay) for name, pay in found.items()}))
            self.assertEqual(list(found), sorted(found))
            kinds["some" if found else "no need"] += 1
        self.assertTrue(all(many > 8 for many in kinds.values()), kinds)

    def test_where_all_amounts_come_to_no_less_there_is_one(self):
        """All losers get what they lose, whatever classes there are."""
        needed = 0
        for chance, web, one, other, _ in drawn(391, 80):
            if sum(map(meant, other.values())) < sum(map(meant, one.values())):
                one, other = other, one
            for classes in (some_classes(chance), (((("ann", 1), ("bob", 1), ("cat", 1)), ONE),)):
                found = least_side_pay(web, one, other, classes)
                self.assertIsNotNone(found)
                losses = {person: told(pay) for person, pay in lost_in(meant_gains(web, one, other)).items()}
                self.assertIs(is_side_pay(web, one, other, classes, losses), True)
                needed += found != {}
        self.assertGreater(needed, 15)

    def test_edges(self):
        self.assertEqual(least_side_pay(WEB, STANDS, OFFERED, CLASSES), {"z": (2, 1)})
        for classes in ((), CLASSES[1:], (((), ONE),), (((("z", 1),), NOUGHT),), (((("x", 1), ("who", 1)), ONE),)):
            self.assertEqual(least_side_pay(WEB, STANDS, OFFERED, classes), {})
        # No losers at all; a loser without votes; losers that gainers cannot bear.
        self.assertEqual(least_side_pay(WEB, STANDS, STANDS, CLASSES), {})
        self.assertEqual(least_side_pay(WEB, STANDS, OFFERED, (((("x", 1),), ONE),)), {})
        self.assertIsNone(least_side_pay(WEB, STANDS, {"a": NOUGHT, "b": (3, 1)}, CLASSES))
        self.assertIsNone(least_side_pay(WEB, STANDS, {"a": NOUGHT, "b": NOUGHT}, (((("z", 1),), ONE),)))
        self.assertEqual(least_side_pay(WEB, STANDS, {"a": NOUGHT, "b": NOUGHT}, ()), {})
        self.assertEqual(least_side_pay((), {}, {}, (((("who", 1),), ONE),)), {})

    def test_just_what_gainers_gain(self):
        web = (("a", 0, (("x", (("shares", ONE),)),)), ("b", 0, (("y", (("shares", ONE),)),)))
        one, classes = {"a": (5, 1), "b": (5, 1)}, (((("x", 1),), ONE),)
        for amount, found in (((7, 1), {"x": (2, 1)}), ((8, 1), {"x": (2, 1)}), ((699, 100), None)):
            self.assertEqual(least_side_pay(web, one, {"a": (3, 1), "b": amount}, classes), found)

    def test_the_dear_one_with_many_votes_or_two_cheap_ones(self):
        web = (("a", 0, (("p", (("shares", (3, 1)),)), ("q", (("shares", (2, 1)),)), ("r", (("shares", (2, 1)),)))),
               ("b", 0, (("x", (("shares", ONE),)),)))
        one, other = {"a": (7, 1), "b": NOUGHT}, {"a": NOUGHT, "b": (7, 1)}
        for votes, found in (
            ((("p", 2), ("q", 1), ("r", 1)), ["p"]), ((("p", 1), ("q", 2), ("r", 1)), ["q"]),
            ((("p", 1), ("q", 1), ("r", 1)), ["q", "r"]), ((("p", 5), ("q", 2), ("r", 2), ("x", 1)), ["p"]),
        ):
            self.assertEqual(list(least_side_pay(web, one, other, ((votes, HALF),))), found)
        both = (((("p", 1), ("q", 1)), HALF), ((("p", 1), ("r", 1)), HALF))
        self.assertEqual(list(least_side_pay(web, one, other, both)), ["p"])


class Forms(unittest.TestCase):
    def test_by_the_words(self):
        kinds = {True: 0, False: 0}
        for chance, web, one, other, classes in drawn(392, 80):
            losses = lost_in(meant_gains(web, one, other))
            for side in all_sides(losses):
                for more in (0, TINY, -TINY, 3):
                    given = {person: pay + more for person, pay in side.items()}
                    thing = {person: told(given[person]) for person in reversed(list(given))}
                    right = is_meant(web, one, other, classes, given)
                    self.assertIs(is_side_pay(web, one, other, classes, thing), right)
                    kinds[right] += 1
            for person in chance.sample(("ann", "bob", "cat", "zoe"), 2):
                if person not in losses:
                    self.assertIs(is_side_pay(web, one, other, classes, {person: ONE}), False)
        self.assertTrue(all(many > 50 for many in kinds.values()), kinds)

    def test_wrong_values(self):
        for thing in (
            *ODD_VALUES, [("z", (2, 1))], (("z", (2, 1)),), {"z": 2}, {"z": None}, {"z": [2, 1]}, {"z": (4, 2)},
            {"z": (2, True)}, {"x": (2, 1)}, {"z": (2, 1), "x": ONE}, {"z": (2, 1), "y": NOUGHT}, {"z": (2, 1), "who": ONE},
            {"z": (2, 1), None: ONE}, {("z",): (2, 1)}, {"z": (199, 100)}, {"z": (401, 100)}, {"z": (-2, 1)},
            {"z": (10 ** 999, 1)}, {}, {"a": (2, 1)}, {1: (2, 1)}, {True: (2, 1), "z": (2, 1)}, {"z": {"z": (2, 1)}},
        ):
            self.assertIs(is_side_pay(WEB, STANDS, OFFERED, CLASSES, thing), False, thing)
        for thing in ({"z": (2, 1)}, {"z": (4, 1)}, {"z": (5, 2)}):
            self.assertIs(is_side_pay(WEB, STANDS, OFFERED, CLASSES, thing), True)
        self.assertIs(is_side_pay(WEB, STANDS, OFFERED, (), {}), True)
        self.assertIs(is_side_pay(WEB, STANDS, OFFERED, (((("z", 1),), ONE),), {"z": (True, 1)}), False)
        self.assertIs(is_side_pay((), {}, {}, (), {}), True)
        one = {"a": (4, 1), "b": NOUGHT}
        self.assertIs(is_side_pay(WEB, one, {"a": (2, 1), "b": (9, 1)}, CLASSES, {"z": ONE}), True)
        self.assertIs(is_side_pay(WEB, one, {"a": (2, 1), "b": (9, 1)}, CLASSES, {"z": (True, 1)}), False)
        self.assertIs(is_side_pay(WEB, one, {"a": (2, 1), "b": (9, 1)}, CLASSES, {"z": (1, True)}), False)


class Bearers(unittest.TestCase):
    def test_all_give_in_proportion(self):
        given = 0
        for _, web, one, other, _ in drawn(393, 120):
            if sum(map(meant, other.values())) < sum(map(meant, one.values())):
                one, other = other, one
            side = least_side_pay(web, one, other, (((("ann", 1), ("bob", 2), ("cat", 1)), ONE),))
            if side is None:
                continue
            changes, found = meant_gains(web, one, other), bearers(web, one, other, side)
            self.assertEqual(tuple(found), gainers(web, one, other))
            self.assertTrue(all(is_fraction(pay) for pay in found.values()))
            self.assertEqual(sum(map(meant, found.values())), meant(side_sum(side)))
            parts = {meant(pay) / changes[person] for person, pay in found.items()}
            self.assertLessEqual(len(parts), 1)
            # With what is handed on nobody in it is paid less, and no gainer.
            self.assertTrue(all(0 <= part <= 1 for part in parts))
            given += side != {}
        self.assertGreater(given, 10)

    def test_edges(self):
        self.assertEqual(bearers(WEB, STANDS, OFFERED, {}), {"x": NOUGHT, "y": NOUGHT})
        self.assertEqual(bearers(WEB, STANDS, OFFERED, {"z": (4, 1)}), {"x": (3, 1), "y": ONE})
        self.assertEqual([bearers(WEB, STANDS, STANDS, {}), bearers((), {}, {}, {})], [{}, {}])
        self.assertEqual(bearers(WEB, STANDS, {"a": NOUGHT, "b": NOUGHT}, {}), {})
        self.assertEqual([side_sum({}), side_sum({"z": HALF, "y": (3, 2)})], [NOUGHT, (2, 1)])


class Bounds(unittest.TestCase):
    def test_twelve_losers_with_votes(self):
        web, one, other, names = many_losers(12)
        self.assertEqual(losers(web, one, other), tuple(sorted(names)))
        chance = source(394)
        for classes_many in (1, 3, 20):
            classes = tuple((tuple((name, chance.randint(1, 9)) for name in sorted(names)), chance.choice((HALF, (2, 3))))
                            for _ in range(classes_many))
            with within(self):
                found = least_side_pay(web, one, other, classes)
            losses = lost_in(meant_gains(web, one, other))
            best = min(sum(side.values()) for side in all_sides(losses) if is_meant_carried(classes, set(side)))
            self.assertEqual(meant(side_sum(found)), best)

    def test_losers_without_votes_do_not_count(self):
        web, one, other, names = many_losers(20)
        classes = (((("ak", 1), ("zoe", 1)), ONE),)
        with within(self):
            self.assertEqual(list(least_side_pay(web, one, other, classes)), ["ak"])

    def test_great_webs(self):
        web, one, other = great_web(7, firms_part=0.4), great_amounts(7), great_amounts(8)
        classes = (((("ann", 3), ("bob", 2), ("cat", 4), ("dan", 1)), (3, 4)),)
        with within(self):
            side = least_side_pay(web, one, other, classes)
        with within(self):
            self.assertIs(side is None or is_side_pay(web, one, other, classes, side), True)


class Kept(unittest.TestCase):
    def test_what_is_passed_stays_and_what_is_told_is_new(self):
        side = {"z": (2, 1)}
        given = bearers(WEB, STANDS, OFFERED, side)
        given.clear()
        found = least_side_pay(WEB, STANDS, OFFERED, CLASSES)
        found["z"] = ONE
        self.assertEqual([least_side_pay(WEB, STANDS, OFFERED, CLASSES), side], [{"z": (2, 1)}, {"z": (2, 1)}])


if __name__ == "__main__":
    unittest.main()
