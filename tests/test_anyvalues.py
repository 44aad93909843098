"""[4] any values: what tells whether something is so answers of all, and what is marked [R] raises Wrong."""

import unittest

from bounds import within
from making import ODD_VALUES, exchanged_deep, nested, source
from soldwhole import errors
from soldwhole.books import book_of, is_book
from soldwhole.chosen import first_choices
from soldwhole.curves import curve
from soldwhole.deeds import are_entries, deed_of, is_deed
from soldwhole.desk import Desk
from soldwhole.forms import (
    are_amounts, are_choices, are_payments, is_amount, is_claim, is_curve, is_firm, is_fraction, is_holding, is_integer,
    is_name, is_web,
)
from soldwhole.kept import Kept
from soldwhole.levelpapers import are_paid, is_level_paper, level_paper
from soldwhole.offers import is_class
from soldwhole.onefirm import payments
from soldwhole.outcomes import is_main_paper, main_paper
from soldwhole.papertexts import read_claim, read_web, show_web
from soldwhole.roundpapers import is_round_paper, round_paper
from soldwhole.rounds import is_round
from soldwhole.rows import are_right, greatest_row, least_row
from soldwhole.sidepay import is_side_pay
from soldwhole.walks import is_walk, walk
from soldwhole.webpapers import is_parting_lot
from soldwhole.webs import dues_order, is_circle, is_dues_order

NOUGHT, ONE, FOUR = (0, 1), (1, 1), (4, 1)
SHARE, DUE = ("shares", ONE), ("due", 0, FOUR)
WEB = (("a", 1, (("b", (SHARE,)), ("x", (SHARE,)), ("y", (DUE, SHARE)))), ("b", 0, (("x", (SHARE,)),)))
AMOUNTS, MORE = {"a": (9, 1), "b": ONE}, {"a": (90, 1), "b": ONE}
RING = tuple((name, 1, (("x", (SHARE,)), (other, (DUE,)))) for name, other in (("a", "b"), ("b", "a")))
CHOICES, FREE = first_choices(WEB), {"a": (0, None), "b": (0, None)}
ROWS = [row(RING, {"a": NOUGHT, "b": NOUGHT}, FREE) for row in (least_row, greatest_row)]
CURVES = (curve([(NOUGHT, NOUGHT), (ONE, FOUR)], NOUGHT), curve([(NOUGHT, NOUGHT), (ONE, NOUGHT)], ONE))
DEAL = ((1000, 1), (500, 1), (("shares", (800, 1)), ("note", (100, 1), ONE, (1, 5))), (NOUGHT, NOUGHT))
CLASSES = (((("x", 1), ("y", 2)), ONE),)
ENTRIES = ((0, ("firm", "a", 1)), (0, ("sort", "a", "common", (SHARE, DUE))), (1, ("give", "a", "common", "x", ONE)))

# Each function behind what it is asked ahead of any value, with a value that is right.
ASKED = (
    (is_integer, (), 7), (is_fraction, (), (-1, 2)), (is_amount, (), ONE), (is_name, (), "abc"), (is_curve, (), CURVES[0]),
    (is_claim, (1,), DUE), (is_holding, (1,), WEB[0][2][2]), (is_firm, (), WEB[0]), (is_web, (), WEB),
    (are_amounts, (WEB,), AMOUNTS), (are_choices, (WEB,), CHOICES),
    (are_payments, (WEB,), least_row(WEB, AMOUNTS, CHOICES)), (is_deed, (), ENTRIES[1][1]), (are_entries, (), ENTRIES),
    (is_level_paper, (CURVES, (7, 1)), level_paper(CURVES, (7, 1))), (are_paid, (CURVES, (7, 1)), payments(CURVES, (7, 1))),
    (is_circle, (RING,), ("b", "a")), (is_dues_order, (WEB,), dues_order(WEB)),
    (are_right, (WEB, AMOUNTS, CHOICES), least_row(WEB, AMOUNTS, CHOICES)),
    (is_parting_lot, (RING, *ROWS), ("a", "b")), (is_main_paper, (WEB, AMOUNTS), main_paper(WEB, AMOUNTS)),
    (is_walk, (WEB, AMOUNTS, MORE), walk(WEB, AMOUNTS, MORE)), (is_round, (), DEAL),
    (is_round_paper, (DEAL,), round_paper(DEAL)), (is_class, (), CLASSES[0]),
    (is_side_pay, (WEB, MORE, AMOUNTS, ()), {}), (is_book, (), book_of(WEB, AMOUNTS)),
)

GREAT = (
    10 ** 999, -10 ** 999, "x" * 3000, " ~\n" * 1000, [0] * 2999, (0,) * 2999, {n: n for n in range(1400)}, nested(19),
    nested(18, word="sum"), ((NOUGHT, NOUGHT),) * 700, tuple((("a", 0, ()),) * 400), (((10 ** 999, 1),) * 300),
    {("a", n): (n, 1) for n in range(400)}, tuple(("x", (SHARE,)) for _ in range(300)), [[[]]] * 900,
    ("sum", (SHARE,) * 600), tuple((n, {}) for n in range(700)),
)
OBJECTS = (Kept(()), Kept(WEB), Desk(), errors.Wrong(0), errors.NoPrice(), errors.Circle(("a", "b")), [Kept(WEB)], {0: Desk()},
           (errors.NoText(0, 0),), {"a": Kept(()), "b": Desk()}, ((Kept(()), 1), (1, Desk())))
RIGHT = tuple(right for _, _, right in ASKED)


def deep(depth, thing):
    """A value so many lists, tuples and dicts deep."""
    for place in range(depth):
        thing = ([thing], (thing,), {"a": thing})[place % 3]
    return thing


THINGS = (*ODD_VALUES, *GREAT, *OBJECTS, *RIGHT, deep(20, ()), deep(19, ONE))


class Asked(unittest.TestCase):
    def test_what_is_right(self):
        for function, ahead, right in ASKED:
            self.assertIs(function(*ahead, right), True, function)

    def test_any_value_is_answered(self):
        for function, ahead, _ in ASKED:
            with within(self):
                for thing in THINGS:
                    self.assertIn(function(*ahead, thing), (True, False))
                    self.assertIsInstance(function(*ahead, thing), bool, function)

    def test_truths_stand_for_no_integers(self):
        """Each 0 and 1 of a right value, one by one, as False and True."""
        for function, ahead, right in ASKED:
            for thing in with_truths(right):
                self.assertIs(function(*ahead, thing), False, (function, thing))

    def test_lists_stand_for_no_tuples(self):
        for function, ahead, right in ASKED:
            for thing in with_lists(right):
                self.assertIs(function(*ahead, thing), False, (function, thing))

    def test_right_ones_with_parts_exchanged(self):
        chance = source(430)
        for function, ahead, right in ASKED:
            with within(self):
                for _ in range(60):
                    thing = exchanged_deep(chance, right, THINGS)
                    self.assertIsInstance(function(*ahead, thing), bool, function)


def with_truths(thing):
    """All values that come of one if a 0 or 1 in it, however deep, is a truth."""
    if isinstance(thing, int):
        return [bool(thing)] if thing in (0, 1) else []
    if isinstance(thing, dict):
        return [{**thing, key: part} for key in thing for part in with_truths(thing[key])]
    if isinstance(thing, tuple):
        return [(*thing[:place], part, *thing[place + 1:]) for place in range(len(thing))
                for part in with_truths(thing[place])]
    return []


def with_lists(thing):
    """All values that come of one if a tuple in it, however deep, is a list."""
    if isinstance(thing, dict):
        return [{**thing, key: part} for key in thing for part in with_lists(thing[key])]
    if isinstance(thing, tuple):
        return [list(thing)] + [(*thing[:place], part, *thing[place + 1:]) for place in range(len(thing))
                                for part in with_lists(thing[place])]
    return []


class Marked(unittest.TestCase):
    def check_wrong(self, call, arguments, place):
        with self.assertRaises(errors.Wrong) as caught:
            call(*arguments)
        self.assertEqual(caught.exception.place, place, (call, arguments))

    def test_texts(self):
        for thing in THINGS:
            if isinstance(thing, str):
                for call in (read_web, deed_of, lambda text: read_claim(2, text), Desk().execute):
                    try:
                        call(thing)
                    except (errors.NoText, errors.NoCommand):
                        pass
                continue
            for call in (read_web, deed_of, Desk().execute):
                self.check_wrong(call, (thing,), 0)
            self.check_wrong(read_claim, (2, thing), 1)

    def test_ranks_ahead_of_the_text(self):
        for thing in (*THINGS, -1, 7, True, False):
            if is_integer(thing) and 0 <= thing <= 6:
                continue
            for text in ("none", "", None, 7):
                self.check_wrong(read_claim, (thing, text), 0)

    def test_kept_webs(self):
        kept = Kept(WEB)
        for thing in THINGS:
            with within(self):
                if not is_web(thing):
                    self.check_wrong(Kept, (thing,), 0)
                if not is_firm(thing):
                    self.check_wrong(kept.put_firm, (thing,), 0)
                if not is_name(thing):
                    for call, other in ((kept.put_amount, None), (kept.put_holding, None), (kept.take_holding, None)):
                        self.check_wrong(call, (thing, other), 0)
                    self.check_wrong(kept.take_firm, (thing,), 0)
                for call, is_right in ((kept.put_amount, is_amount), (kept.take_holding, is_integer),
                                       (kept.put_holding, lambda one: is_holding(6, one))):
                    if not is_right(thing):
                        self.check_wrong(call, ("zoe", thing), 1)
        self.assertEqual([kept.web(), kept.amounts(), kept.moved()], [WEB, {"a": NOUGHT, "b": NOUGHT}, {}])

    def test_great_webs_are_kept(self):
        """Of more firms than all that is reckoned needs to bear; but to keep them, and to read them, is no reckoning."""
        web = tuple((first + second, 0, (("x", (SHARE,)),)) for first in "abcdefghij" for second in "abcdefghijklmnopqrst")
        with within(self):
            self.assertEqual(Kept(web).web(), web)
            self.assertEqual(read_web(show_web(web)), web)
            self.assertIs(is_book((web, {firm[0]: ONE for firm in web}, None, None)), False)
            self.assertIs(is_book(book_of(web, {firm[0]: ONE for firm in web})), True)


if __name__ == "__main__":
    unittest.main()
