"""[18] deeds."""

import unittest

from making import ODD_VALUES, above_zero, exchanged_deep, some_claim, source
from soldwhole import errors
from soldwhole.deeds import are_entries, deed_of, deed_text, is_deed
from soldwhole.errors import NoText, Wrong

SHARE, DUE, NONE = ("shares", (1, 1)), ("due", 5, (4, 1)), ("none",)

NAMED = (
    (("firm", "a", 0), "firm a 0"), (("firm", "firm", 6), "firm firm 6"),
    (("sort", "a", "or", (SHARE,)), "sort a or shares 1"),
    (("sort", "a", "b", (("sum", (DUE, NONE)), SHARE, NONE, NONE)),
     "sort a b sum 2 due 5 4 none or shares 1 or none or none"),
    (("give", "a", "b", "x", (1, 2)), "give a b x 1/2"), (("hand", "a", "b", "x", "y", (3, 1)), "hand a b x y 3"),
    (("back", "a", "b", "x", (5, 4)), "back a b x 5/4"), (("split", "a", "b", (1, 3)), "split a b 1/3"),
    (("grant", "a", "b", "x", (4, 1), 3000, 60), "grant a b x 4 3000 60"),
    (("grant", "a", "b", "x", (4, 1), 1, 1), "grant a b x 4 1 1"),
    (("leave", "a", "x"), "leave a x"), (("strike", 0), "strike 0"), (("strike", 10 ** 40 - 1), "strike " + "9" * 40),
)


def some_deed(chance):
    word = chance.choice(("firm", "sort", "give", "hand", "back", "split", "grant", "leave", "strike"))
    names = [chance.choice(("a", "b", "c", "x", "or", "firm")) for _ in range(4)]
    if word == "firm":
        return (word, names[0], chance.randint(0, 6))
    if word == "sort":
        return (word, *names[:2], tuple(some_claim(chance, 6) for _ in range(chance.randint(1, 4))))
    if word == "leave":
        return (word, *names[:2])
    if word == "strike":
        return (word, chance.randint(0, 50))
    if word == "grant":
        return (word, *names[:3], above_zero(chance), chance.randint(1, 3000), chance.randint(1, 60))
    return (word, *names[:{"split": 2, "hand": 4}.get(word, 3)], above_zero(chance))


class Forms(unittest.TestCase):
    def test_good(self):
        for deed, _ in NAMED:
            self.assertIs(is_deed(deed), True, deed)
            self.assertIs(are_entries(((-5, deed), (10 ** 999, deed))), True)
        self.assertIs(is_deed(("hand", "a", "b", "x", "x", (1, 1))), True)
        self.assertIs(is_deed(("give", "a", "b", "a", (1, 1))), True)
        self.assertIs(is_deed(("strike", 10 ** 999)), True)
        self.assertIs(are_entries(()), True)

    def test_bad(self):
        for thing in (
            ("firm", "a", 7), ("firm", "a", -1), ("firm", "a", True), ("firm", "A", 0), ("firm", "a"),
            ("firm", "a", 0, 0), ["firm", "a", 0],
            ("sort", "a", "b", ()), ("sort", "a", "b", (NONE,) * 5), ("sort", "a", "b", [NONE]),
            ("sort", "a", "b", NONE),
            ("sort", "a", "b", (("due", 6, (1, 1)),)), ("sort", "a", "b", (None,)), ("sort", "a", (NONE,)),
            ("sort", "a", "", (NONE,)),
            ("give", "a", "b", "x", (0, 1)), ("give", "a", "b", "x", (-1, 1)), ("give", "a", "b", "x", (2, 2)),
            ("give", "a", "b", "x", 1),
            ("give", "a", "b", (1, 1)), ("hand", "a", "b", "x", (1, 1)), ("hand", "a", "b", "x", "y", (0, 1)),
            ("back", "a", "b", "", (1, 1)),
            ("split", "a", "b", (0, 1)), ("split", "a", (1, 1)), ("grant", "a", "b", "x", (1, 1), 0, 1),
            ("grant", "a", "b", "x", (1, 1), 3001, 1),
            ("grant", "a", "b", "x", (1, 1), 1, 0), ("grant", "a", "b", "x", (1, 1), 1, 61),
            ("grant", "a", "b", "x", (1, 1), True, 1),
            ("grant", "a", "b", "x", (1, 1), 1, True), ("grant", "a", "b", "x", (1, 1), 1),
            ("grant", "a", "b", "x", (0, 1), 1, 1),
            ("leave", "a"), ("leave", "a", "x", "x"), ("leave", "a", None), ("strike", -1), ("strike", True),
            ("strike", (1, 1)), ("strike",),
            ("Strike", 1), (), (None,), ("none",), ((),), ("",), (["firm"], "a", 0), errors.NoDeed(1), *ODD_VALUES,
        ):
            self.assertIs(is_deed(thing), False, thing)
            self.assertIs(are_entries(((0, thing),)), False, thing)

    def test_entries(self):
        deed = ("strike", 0)
        for thing in ([], [(0, deed)], (deed,), ((0, deed), None), ((0, deed, 0),), ((0,),), ([0, deed],),
                      ((True, deed),), (("0", deed),),
                      ((None, deed),), {}, None, 0, "", (0, deed), (((0, 1), deed),)):
            self.assertIs(are_entries(thing), False, thing)

    def test_exchanged_deep_inside(self):
        chance = source(40)
        for _ in range(500):
            deed = some_deed(chance)
            self.assertIs(is_deed(deed), True)
            thing = exchanged_deep(chance, deed, ODD_VALUES)
            self.assertIn(is_deed(thing), (True, False))
            self.assertIs(are_entries(((1, deed), (0, thing))), is_deed(thing))
            if is_deed(thing) and len(deed_text(thing)) < 900:
                self.assertEqual(deed_of(deed_text(thing)), thing)


class Texts(unittest.TestCase):
    def test_named(self):
        for deed, text in NAMED:
            self.assertEqual([deed_text(deed), deed_of(text)], [text, deed])

    def test_shown_and_read(self):
        chance = source(41)
        for _ in range(500):
            deed = some_deed(chance)
            self.assertEqual(deed_of(deed_text(deed)), deed)
            self.assertEqual(deed_text(deed_of(deed_text(deed))), deed_text(deed))

    def test_great_ones_are_shown(self):
        self.assertEqual(deed_text(("split", "a", "b", (1, 10 ** 200))), "split a b 1/1" + "0" * 200)
        self.assertEqual(deed_text(("strike", 10 ** 999)), "strike 1" + "0" * 999)

    def test_no_texts(self):
        more = "9" * 41
        for text, column in (
            ("", 0), (" ", 0), ("Firm", 0), ("none", 0), (" firm a 0", 0), ("firm\n", 0), ("firm", 1), ("firm ", 1),
            ("firm a", 2), ("firm a 7", 2),
            ("firm a -1", 2), ("firm a 00", 2), ("firm a 0 ", 3), ("firm a 0 0", 3), ("firm A 0", 1), ("firm  a 0", 1),
            ("firm a 0\n", 2),
            ("sort a b", 3), ("sort a b or", 3), ("sort a b none or", 5), ("sort a b none none", 4),
            ("sort a b none or or", 5),
            ("sort a b none or none or none or none", None), ("sort a b none or none or none or none or none", 10),
            ("sort a b due 5 1", None), ("sort a b due 6 1", 4), ("sort a b sum 2 none or none", 6),
            ("sort a b sum 2 none", 6),
            ("sort a b none or due 0", 7), ("sort a b none  or none", 4), ("sort a b shares 0", 4), ("give a b x", 4),
            ("give a b x 0", 4),
            ("give a b x -1", 4), ("give a b x 2/4", 4), ("give a b x 1 1", 5), ("give a b 1", 3),
            ("give a b x 1/" + more, 4),
            ("hand a b x y", 5), ("hand a b x 1", 4), ("hand a b x x 1", None), ("back a b x +1", 4), ("split a b", 3),
            ("split a b 0", 3),
            ("split a b 1 1", 4), ("split a 1", 2), ("grant a b x 1", 5), ("grant a b x 1 0 1", 5),
            ("grant a b x 1 3001 1", 5), ("grant a b x 1 1 0", 6),
            ("grant a b x 1 1 61", 6), ("grant a b x 1 1", 6), ("grant a b x 1 1/2 1", 5), ("grant a b x 1 1 1 1", 7),
            ("grant a b x 1 1 1", None),
            ("leave a", 2), ("leave a x x", 3), ("leave a 1", 2), ("strike", 1), ("strike -1", 1), ("strike 1/2", 1),
            ("strike " + more, 1),
            ("strike 01", 1), ("strike 0 0", 2), ("strike a", 1),
        ):
            if column is None:
                self.assertEqual(deed_text(deed_of(text)), text)
                continue
            with self.assertRaises(NoText, msg=text) as caught:
                deed_of(text)
            self.assertEqual((caught.exception.line, caught.exception.column), (0, column), text)

    def test_wrong(self):
        for thing in ODD_VALUES + tuple(deed for deed, _ in NAMED):
            if not isinstance(thing, str):
                with self.assertRaises(Wrong) as caught:
                    deed_of(thing)
                self.assertEqual(caught.exception.place, 0)


if __name__ == "__main__":
    unittest.main()
