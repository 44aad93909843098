"""[12] forms."""

import unittest

from making import ODD_VALUES, exchanged_deep, nested, some_claim, some_curve, source
from soldwhole import errors
from soldwhole.forms import (
    are_amounts, are_choices, are_payments, choosing_of, firm_of, held_by, is_amount, is_claim, is_curve, is_firm,
    is_fraction, is_holding, is_integer, is_name, is_web,
)

SHARE, DUE = ("shares", (1, 1)), ("due", 0, (4, 1))
BETH = ("beth", 0, (("ann", (SHARE,)), ("carl", (SHARE, ("none",)))))
CARL = ("carl", 1, (("ann", (SHARE,)), ("dora", (DUE, SHARE)), ("ann", (SHARE, DUE))))
WEB = (BETH, CARL)
NOUGHT = (0, 1)
ONE_ARGUMENT = (is_integer, is_fraction, is_amount, is_name, is_curve, is_firm, is_web)


def tell_all(thing):
    """What each function tells of a thing."""
    told = [function(thing) for function in ONE_ARGUMENT]
    told += [is_claim(2, thing), is_holding(2, thing), are_amounts(WEB, thing), are_choices(WEB, thing)]
    return told + [are_payments(WEB, thing)]


class Plain(unittest.TestCase):
    def test_integers(self):
        for thing, told in ((0, True), (-1, True), (10 ** 999, True), (True, False), (False, False), ("1", False)):
            self.assertIs(is_integer(thing), told)

    def test_fractions(self):
        good = ((0, 1), (1, 1), (-1, 1), (-3, 2), (10 ** 999, 7), (7, 10 ** 999))
        bad = ((0, 2), (2, 4), (1, 0), (1, -1), (-1, -2), (True, 1), (1, True), (1,), (1, 2, 3), [1, 2], "12", 1,
               (1, "2"))
        for thing in good:
            self.assertIs(is_fraction(thing), True)
            self.assertIs(is_amount(thing), thing[0] >= 0)
        for thing in bad:
            self.assertIs(is_fraction(thing), False, thing)
            self.assertIs(is_amount(thing), False, thing)

    def test_names(self):
        for thing in ("a", "z", "abc", "a" * 12):
            self.assertIs(is_name(thing), True)
        for thing in ("", "a" * 13, "A", "aB", "a1", "a b", "a\n", "\u00e9", "\u00df", "a_", 1, None, ["a"], ("a",)):
            self.assertIs(is_name(thing), False, thing)


class Curves(unittest.TestCase):
    def test_good(self):
        self.assertIs(is_curve((((NOUGHT, NOUGHT),), NOUGHT)), True)
        self.assertIs(is_curve((((NOUGHT, NOUGHT), ((1, 3), NOUGHT)), (2, 3))), True)
        self.assertIs(is_curve((((NOUGHT, NOUGHT), ((1, 3), (5, 1)), ((1, 2), (5, 1))), (2, 3))), True)
        chance = source(1)
        for _ in range(200):
            self.assertIs(is_curve(some_curve(chance)), True)

    def test_bad(self):
        first, one = (NOUGHT, NOUGHT), ((1, 1), (4, 1))
        for thing in (
            ((), NOUGHT), ((one,), NOUGHT), ((first, one), (4, 1)), ((first, one), (-1, 1)), ((first, one), 0),
            ([first, one], NOUGHT), ((first, list(one)), NOUGHT), [(first, one), NOUGHT], ((first, one),),
            ((first, one, one), NOUGHT), ((first, one, ((1, 2), (5, 1))), NOUGHT),
            ((first, one, ((2, 1), (3, 1))), (1, 1)),
            ((first, ((1, 1), NOUGHT)), NOUGHT), ((first, ((1, 1), (1, 1)), ((2, 1), (2, 1))), NOUGHT), (first, NOUGHT),
            (((NOUGHT, (1, 1)), one), NOUGHT), ((((False, 1), NOUGHT), one), NOUGHT),
            ((first, ((2, 2), (4, 1))), NOUGHT),
            ((first, (*one, NOUGHT)), NOUGHT), ((first, one), NOUGHT, ()), (((),), NOUGHT), None, (None, None),
            ((None,), NOUGHT),
            (None, NOUGHT), ((first, ((1, 1), 4)), NOUGHT), ((first, (1, (4, 1))), NOUGHT), ({}, NOUGHT),
            ((first, one), None),
        ):
            self.assertIs(is_curve(thing), False, thing)


class Claims(unittest.TestCase):
    def test_kinds(self):
        for ranks, thing, told in (
            (0, ("none",), True), (0, ("none", ()), False), (0, (), False), (0, "none", False), (0, ["none"], False),
            (0, DUE, False), (1, DUE, True), (1, ("due", 1, (4, 1)), False), (6, ("due", 5, (4, 1)), True),
            (6, ("due", 6, (4, 1)), False), (6, ("due", -1, (4, 1)), False), (1, ("due", False, (4, 1)), False),
            (2, ("due", True, (4, 1)), False), (1, ("due", 0, NOUGHT), False), (1, ("due", 0, (-1, 1)), False),
            (1, ("due", 0), False), (1, ("due", 0, (1, 1), (1, 1)), False), (0, SHARE, True),
            (0, ("shares", NOUGHT), False),
            (0, ("shares", 1), False), (0, ("shares", (1, 1), (1, 1)), False), (0, ("option", (1, 2), (3, 1)), True),
            (0, ("option", (1, 2)), False), (0, ("option", NOUGHT, (1, 1)), False),
            (0, ("option", (1, 1), NOUGHT), False),
            (0, ("capped", SHARE, (1, 1)), True), (0, ("capped", SHARE, NOUGHT), False),
            (0, ("capped", DUE, (1, 1)), False),
            (0, ("capped", (1, 1), SHARE), False), (0, ("capped", SHARE), False), (0, ("sum", (SHARE, SHARE)), True),
            (0, ("sum", (SHARE,)), False), (0, ("sum", ()), False), (0, ("sum", [SHARE, SHARE]), False),
            (0, ("sum",), False),
            (0, ("sum", SHARE, SHARE), False), (0, ("sum", (SHARE, DUE)), False), (0, ("sum", (SHARE, None)), False),
            (0, ("Shares", (1, 1)), False), (0, ("other", (1, 1), (1, 1)), False), (0, (b"none",), False),
            (0, (None,), False), (0, ([],), False), (0, (("none",),), False),
        ):
            self.assertIs(is_claim(ranks, thing), told, (ranks, thing))

    def test_deep(self):
        for word in ("capped", "sum"):
            self.assertIs(is_claim(0, nested(2000, SHARE, word)), True)
            self.assertIs(is_claim(0, nested(2000, DUE, word)), False)

    def test_exchanged_deep_inside(self):
        chance = source(2)
        for _ in range(300):
            claim = some_claim(chance, 2)
            self.assertIs(is_claim(2, claim), True)
            other = exchanged_deep(chance, claim, ODD_VALUES)
            self.assertIs(is_claim(2, other), self.plain(2, other), other)

    def plain(self, ranks, thing):
        """Is it a CLAIM? Told by the words of the definition, one word after the other."""
        def fits(one, least):
            return isinstance(one, tuple) and is_fraction(one) and one[0] > least
        if not isinstance(thing, tuple) or not thing:
            return False
        match thing:
            case ("none",):
                return True
            case ("due", int() as rank, amount) if not isinstance(rank, bool):
                return 0 <= rank < ranks and fits(amount, 0)
            case ("shares", count):
                return fits(count, 0)
            case ("option", count, price):
                return fits(count, 0) and fits(price, 0)
            case ("capped", inner, amount):
                return self.plain(ranks, inner) and fits(amount, 0)
            case ("sum", tuple() as inner):
                return len(inner) > 1 and all(self.plain(ranks, one) for one in inner)
        return False


class Webs(unittest.TestCase):
    def test_holdings(self):
        self.assertIs(is_holding(1, ("ann", (DUE, SHARE))), True)
        for ranks, thing in ((0, ("ann", (DUE, SHARE))), (1, ("ann", ())), (1, ("Ann", (SHARE,))),
                             (1, ("ann", [SHARE])),
                             (1, ["ann", (SHARE,)]), (1, ("ann", (SHARE,), 1)), (1, ("ann", SHARE)), (1, ("ann",))):
            self.assertIs(is_holding(ranks, thing), False, thing)

    def test_firms(self):
        for thing in (BETH, CARL, ("a", 6, ())):
            self.assertIs(is_firm(thing), True)
        for thing in (("a", 7, ()), ("a", -1, ()), ("a", True, ()), ("a", 0, []), ("a", 0), ("a", 0, (), ()),
                      ["a", 0, ()],
                      ("A", 0, ()), ("ann",) + BETH[1:], ("a", 0, CARL[2]), ("a", 0, (None,)), ("a", "0", ())):
            self.assertIs(is_firm(thing), False, thing)

    def test_webs(self):
        for thing in ((), (BETH,), WEB):
            self.assertIs(is_web(thing), True)
        for thing in ([], [BETH], (CARL, BETH), (BETH, BETH), (BETH, ("beth", 1, ())), BETH, (BETH, None), (WEB,),
                      None):
            self.assertIs(is_web(thing), False, thing)
        many = tuple(("a" * length, 0, ()) for length in range(1, 13))
        self.assertIs(is_web(many), True)

    def test_amounts(self):
        self.assertIs(are_amounts(WEB, {"carl": (1, 2), "beth": NOUGHT}), True)
        self.assertIs(are_amounts((), {}), True)
        for thing in ({}, {"beth": NOUGHT}, {"beth": NOUGHT, "carl": (-1, 1)}, {"beth": NOUGHT, "carl": 1}, None, [],
                      {"beth": NOUGHT, "carl": NOUGHT, "dora": NOUGHT}, {"beth": NOUGHT, "dora": NOUGHT}, "beth",
                      {"beth": NOUGHT, 1: NOUGHT}, {"beth": NOUGHT, "carl": (2, 2)},
                      (("beth", NOUGHT), ("carl", NOUGHT))):
            self.assertIs(are_amounts(WEB, thing), False, thing)

    def test_choices(self):
        for carl in ((0, 0, 0), (0, 1, 1)):
            self.assertIs(are_choices(WEB, {"carl": carl, "beth": (0, None)}), True)
        self.assertIs(are_choices((), {}), True)
        for beth, carl in (((0, 0), (0, 0, 0)), ((0, None), (0, 2, 0)), ((0, None), (0, -1, 0)),
                           ((0, None), (False, 0, 0)),
                           ((0, None), (0, True, 0)), ((None, None), (0, 0, 0)), ((0,), (0, 0, 0)),
                           ([0, None], (0, 0, 0)),
                           ((0, None), (0, 0, 0, 0)), (None, (0, 0, 0)), ((0, False), (0, 0, 0)),
                           ((0, None), ("0", 0, 0))):
            self.assertIs(are_choices(WEB, {"beth": beth, "carl": carl}), False, (beth, carl))
        for thing in (None, {}, {"beth": (0, None)}, ((0, None), (0, 0, 0))):
            self.assertIs(are_choices(WEB, thing), False)

    def test_payments(self):
        good = {"carl": ((1, 1), (2, 3), NOUGHT), "beth": (NOUGHT, (10 ** 300, 7))}
        self.assertIs(are_payments(WEB, good), True)
        for carl in ((NOUGHT, NOUGHT), [NOUGHT] * 3, (NOUGHT, NOUGHT, (-1, 1)), (NOUGHT, NOUGHT, 0), (NOUGHT,) * 4,
                     None):
            self.assertIs(are_payments(WEB, {**good, "carl": carl}), False, carl)
        self.assertIs(are_payments(WEB, {**good, "dora": ()}), False)

    def test_any_values(self):
        chance = source(3)
        things = list(ODD_VALUES) + [errors.Wrong(0), [WEB], {"beth": WEB, "carl": ()}, {(): ()}, {None: 1, True: 2}]
        things += [exchanged_deep(chance, WEB, ODD_VALUES) for _ in range(200)]
        for thing in things:
            before = repr(thing)
            told = tell_all(thing)
            self.assertTrue(all(one is True or one is False for one in told), thing)
            self.assertEqual(tell_all(thing), told)
            self.assertEqual(repr(thing), before)

    def test_looking_up(self):
        self.assertEqual([firm_of(WEB, "beth"), firm_of(WEB, "carl")], [BETH, CARL])
        self.assertEqual(held_by(WEB, "ann"), [("beth", 0), ("carl", 0), ("carl", 2)])
        self.assertEqual([held_by(WEB, "carl"), held_by(WEB, "beth"), held_by((), "ann")], [[("beth", 1)], [], []])
        self.assertEqual([choosing_of(WEB, "ann"), choosing_of(WEB, "nobody")], [[("carl", 2)], []])
        self.assertEqual(choosing_of(WEB, "carl"), [("beth", 1)])

    def test_what_is_told_is_new(self):
        for function in (held_by, choosing_of):
            function(WEB, "ann").append(1)
            self.assertNotIn(1, function(WEB, "ann"))


if __name__ == "__main__":
    unittest.main()
