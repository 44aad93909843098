"""[40] books, and wrong values for main papers [29]."""

import unittest

from bounds import great_amounts, great_web, within
from making import ODD_VALUES, exchanged_deep, meant, source, told as fraction_told
from offering import drawn
from soldwhole.books import book_of, is_book, unlike_in
from soldwhole.errors import Circle, NotFounded
from soldwhole.forms import is_web
from soldwhole.outcomes import is_main_paper, main_paper, outcome
from soldwhole.signs import paid_to
from soldwhole.webs import is_clear
from unclear import check_unclear, unfounded
from webmaking import meant_paid, some_amounts, some_clear_web, some_rings

NOUGHT, ONE, FOUR, HALF = (0, 1), (1, 1), (4, 1), (1, 2)
SHARE, DUE = ("shares", ONE), ("due", 0, FOUR)
WEB = (("a", 1, (("x", (SHARE,)), ("y", (DUE, SHARE)))),)
BOOK = (WEB, {"a": (6, 1)}, ({"a": (3, 1)}, {"a": (0, 0)}), {"x": (2, 1), "y": FOUR})


class Books(unittest.TestCase):
    def test_of_main_paper(self):
        for _, web, amounts, _, _ in drawn(400, 80):
            book = book_of(web, amounts)
            self.assertIsInstance(book, tuple)
            self.assertEqual(book[:3], (web, amounts, main_paper(web, amounts)))
            self.assertEqual(book[3], paid_to(web, outcome(web, amounts)[1]))
            self.assertEqual([list(book[1]), list(book[3])], [sorted(book[1]), sorted(book[3])])
            self.assertEqual(sum(map(meant, book[3].values())), sum(map(meant, amounts.values())))
            self.assertIs(is_book(book), True)

    def test_edges(self):
        self.assertEqual(book_of(WEB, {"a": (6, 1)}), BOOK)
        self.assertEqual(book_of((), {}), ((), {}, ({}, {}), {}))
        self.assertIs(is_book(book_of((), {})), True)
        amounts = {"a": (6, 1)}
        book = book_of(WEB, amounts)
        amounts["a"] = ONE
        self.assertEqual(book, BOOK)

    def test_unclear_webs(self):
        check_unclear(self, lambda web, amounts, _: book_of(web, amounts))

    def test_bounds(self):
        web, amounts = great_web(9), great_amounts(9)
        with within(self):
            book = book_of(web, amounts)
        with within(self):
            self.assertIs(is_book(book), True)


class Forms(unittest.TestCase):
    def test_anything_otherwise_is_none(self):
        for chance, web, amounts, other, _ in drawn(401, 60):
            web, amounts, (levels, choices), paid = book_of(web, amounts)
            name, person = chance.choice(list(levels)), chance.choice(list(paid))
            more = {**amounts, name: fraction_told(meant(amounts[name]) + 1)}
            self.assertIs(is_book((web, more, (levels, choices), paid)), False)
            self.assertIs(is_book((web, amounts, ({**levels, name: fraction_told(meant(levels[name]) + 1)}, choices), paid)),
                          False)
            for pay in (fraction_told(meant(paid[person]) + 1), None, 0, list(paid[person]), (True, 1)):
                if pay != paid[person]:
                    self.assertIs(is_book((web, amounts, (levels, choices), {**paid, person: pay})), False)
            fewer = {one: paid[one] for one in paid if one != person}
            self.assertIs(is_book((web, amounts, (levels, choices), fewer)), False)
            self.assertIs(is_book((web, amounts, (levels, choices), {**paid, "who": NOUGHT})), False)
            self.assertIs(is_book((web, other, (levels, choices), paid)), amounts == other)

    def test_other_choices_that_are_most(self):
        amounts, levels, paid = {"a": (12, 1)}, {"a": (5, 1)}, {"x": FOUR, "y": (8, 1)}
        self.assertIs(is_book((WEB, {"a": (8, 1)}, (levels, {"a": (0, 0)}), {"x": FOUR, "y": FOUR})), True)
        self.assertIs(is_book((WEB, {"a": (8, 1)}, (levels, {"a": (0, 1)}), {"x": FOUR, "y": FOUR})), True)
        self.assertIs(is_book((WEB, amounts, (levels, {"a": (0, 1)}), paid)), False)
        self.assertIs(is_book((WEB, {"a": (6, 1)}, ({"a": (3, 1)}, {"a": (0, 1)}), BOOK[3])), False)

    def test_whatever_order_the_keys_have(self):
        for _, web, amounts, _, _ in drawn(402, 30):
            web, amounts, (levels, choices), paid = book_of(web, amounts)
            turned = [{key: one[key] for key in reversed(list(one))} for one in (amounts, levels, choices, paid)]
            self.assertIs(is_book((web, turned[0], (turned[1], turned[2]), turned[3])), True)

    def test_wrong_values(self):
        web, amounts, paper, paid = BOOK
        levels, choices = paper
        for thing in (
            *ODD_VALUES, list(BOOK), BOOK[:3], (*BOOK, None), BOOK[::-1], (list(web), *BOOK[1:]), (None, *BOOK[1:]),
            ((), *BOOK[1:]), (web, None, paper, paid), (web, {}, paper, paid), (web, {"a": 6}, paper, paid),
            (web, {"a": (6, 1), "b": ONE}, paper, paid), (web, {"a": (12, 2)}, paper, paid), (web, amounts, None, paid),
            (web, amounts, list(paper), paid), (web, amounts, (choices, levels), paid), (web, amounts, (levels,), paid),
            (web, amounts, ({"a": (True, 1)}, choices), paid), (web, amounts, (levels, {"a": (False, 0)}), paid),
            (web, amounts, (levels, {"a": (0, 2)}), paid), (web, amounts, (levels, {"a": (0,)}), paid),
            (web, amounts, paper, None), (web, amounts, paper, {}), (web, amounts, paper, [("x", (2, 1)), ("y", FOUR)]),
            (web, amounts, paper, {"x": (2, 1)}), (web, amounts, paper, {"x": (2, 1), "y": 4}),
            (web, amounts, paper, {"x": (4, 2), "y": FOUR}), (web, amounts, paper, {"x": (2, True), "y": FOUR}),
            (web, amounts, paper, {"x": (2, 1), "y": FOUR, "z": NOUGHT}), (web, amounts, paper, {"x": FOUR, "y": (2, 1)}),
            (web, amounts, paper, {"x": (2, 1), "y": [4, 1]}), (web, amounts, paper, {"x": (2, 1), 1: FOUR}),
            (web, amounts, paper, {"x": (3, 1), "y": (3, 1)}), ((WEB,), amounts, paper, paid), (web, amounts, paid, paper),
        ):
            self.assertIs(is_book(thing), False, thing)
        self.assertIs(is_book(BOOK), True)
        ones = book_of(WEB, {"a": ONE})
        self.assertIs(is_book(ones), True)
        self.assertIs(is_book((*ones[:3], {"x": NOUGHT, "y": (True, 1)})), False)
        self.assertIs(is_book((*ones[:3], {"x": (False, 1), "y": ONE})), False)

    def test_of_webs_that_are_not_clear(self):
        """The levels and pays may be right ones; but a WEB that is not CLEAR is in no BOOK."""
        web = (("a", 0, (("x", (("sum", (SHARE, ("none",))),)),)),)
        self.assertIs(is_book((web, {"a": ONE}, ({"a": ONE}, {"a": (0,)}), {"x": ONE})), False)
        self.assertIs(is_book(((("a", 0, ()),), {"a": NOUGHT}, ({"a": NOUGHT}, {"a": ()}), {})), False)
        ring = tuple((name, 1, (("x", (SHARE,)), (other, (DUE,)))) for name, other in (("a", "b"), ("b", "a")))
        paper = ({"a": (3, 1), "b": (3, 1)}, {"a": (0, None), "b": (0, None)})
        self.assertIs(is_book((ring, {"a": (2, 1), "b": (2, 1)}, paper, {"x": FOUR})), False)
        chance = source(403)
        for _ in range(20):
            web = some_rings(chance)
            amounts = some_amounts(chance, web)
            thing = (web, amounts, (amounts, {name: (None,) * len(holdings) for name, _, holdings in web}), {})
            self.assertIs(is_book(thing), False)
            self.assertIs(is_book((tuple(map(unfounded, web)), *thing[1:])), False)

    def test_parts_exchanged(self):
        chance = source(404)
        kinds = {True: 0, False: 0}
        for _ in range(400):
            web = some_clear_web(chance, 2, 2)
            book = book_of(web, some_amounts(chance, web))
            thing = self.exchanged(chance, book)
            found = is_book(thing)
            kinds[found] += 1
            if found:
                self.assertTrue(is_web(thing[0]) and is_clear(thing[0]))
                self.assertEqual(fractions_of(thing[3]), meant_paid(thing[0], outcome(thing[0], thing[1])[1]))
        self.assertTrue(kinds[True] > 5 and kinds[False] > 200, kinds)

    def exchanged(self, chance, book):
        """A book with some part of it exchanged, in a dict too, so that some remain BOOKS."""
        others = (*ODD_VALUES, ONE, NOUGHT, SHARE)
        place = chance.randrange(4)
        part = book[place]
        if isinstance(part, dict) and part and chance.random() < 0.7:
            key = chance.choice(list(part))
            part = {**part, key: exchanged_deep(chance, part[key], (*others, part[key], part[key]))}
        else:
            part = exchanged_deep(chance, part, (*others, part))
        return (*book[:place], part, *book[place + 1:])


def fractions_of(paid):
    return {person: meant(pay) for person, pay in paid.items()}


class Unlike(unittest.TestCase):
    def test_who_is_paid_unlike(self):
        unlike = 0
        for chance, web, one, other, _ in drawn(405, 60):
            rival = some_clear_web(chance)
            for second in (book_of(web, other), book_of(rival, some_amounts(chance, rival))):
                first = book_of(web, one)
                found = unlike_in(first, second)
                persons = sorted({*first[3], *second[3]})
                self.assertEqual(found, {
                    person: (first[3].get(person, NOUGHT), second[3].get(person, NOUGHT)) for person in persons
                    if first[3].get(person, NOUGHT) != second[3].get(person, NOUGHT)
                })
                self.assertEqual(list(found), sorted(found))
                self.assertEqual(unlike_in(second, first), {person: pays[::-1] for person, pays in found.items()})
                self.assertEqual(unlike_in(second, second), {})
                unlike += len(found)
        self.assertGreater(unlike, 100)

    def test_edges(self):
        none, other = book_of((), {}), book_of(WEB, {"a": (10, 1)})
        self.assertEqual(unlike_in(BOOK, other), {"x": ((2, 1), (5, 1)), "y": (FOUR, (5, 1))})
        self.assertEqual(unlike_in(none, BOOK), {"x": (NOUGHT, (2, 1)), "y": (NOUGHT, FOUR)})
        self.assertEqual(unlike_in(BOOK, none), {"x": ((2, 1), NOUGHT), "y": (FOUR, NOUGHT)})
        self.assertEqual([unlike_in(none, none), unlike_in(none, book_of(WEB, {"a": NOUGHT}))], [{}, {}])
        # Here y is a firm by the other web: so it is paid nothing there.
        firm = (("a", 0, (("x", (SHARE,)), ("y", (SHARE,)))), ("y", 0, (("x", (SHARE,)),)))
        self.assertEqual(unlike_in(BOOK, book_of(firm, {"a": (2, 1), "y": NOUGHT})), {"y": (FOUR, NOUGHT)})


class MainPapers(unittest.TestCase):
    def test_wrong_values_of_any_kind(self):
        chance = source(406)
        amounts, paper = BOOK[1], BOOK[2]
        for _ in range(300):
            thing = exchanged_deep(chance, paper, (*ODD_VALUES, {"a": (3, 1)}, {"a": (0, 0)}, {"a": (0, 1)}, {"a": ONE}))
            self.assertIs(is_main_paper(WEB, amounts, thing), repr(thing) == repr(paper), thing)

    def test_unclear_webs_whatever_it_is(self):
        ring = tuple((name, 1, (("x", (SHARE,)), (other, (DUE,)))) for name, other in (("a", "b"), ("b", "a")))
        for thing in ODD_VALUES:
            with self.assertRaises(Circle):
                is_main_paper(ring, {"a": ONE, "b": ONE}, thing)
            with self.assertRaises(NotFounded):
                is_main_paper((("a", 0, ()), *ring[1:]), {"a": ONE, "b": ONE}, thing)


if __name__ == "__main__":
    unittest.main()
