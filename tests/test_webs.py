"""[23] webs."""

import itertools
import unittest

from making import ODD_VALUES, exchanged_deep, nested, source
from soldwhole.errors import Circle, NotFounded
from soldwhole.webs import (
    check_clear, check_founded, circle_of, dues_order, first_unfounded, is_circle, is_clear, is_dues_order, is_founded,
    persons_of,
)
from webmaking import NAMES, some_rings, some_web

ONE = ("shares", (1, 1))
DUE = ("due", 0, (4, 1))
FOUNDER = ("ann", (ONE,))


def firm(name, *holdings):
    return (name, 1, holdings)


def owing(*couples):
    """A FOUNDED WEB of asp, bay, cow, doe; each couple is (payer, holder) of a due."""
    return tuple(
        firm(name, FOUNDER, *[(holder, (ONE, ("sum", (ONE, DUE)))) for payer, holder in couples if payer == name])
        for name in NAMES[:4]
    )


def has_due_in(claim):
    return "'due'" in repr(claim)


def meant_ahead(web):
    """The couples (payer, holder) of firms with a due in some option of a holding."""
    names = [name for name, _, _ in web]
    return {(name, holder) for name, _, holdings in web for holder, options in holdings
            if holder in names and has_due_in(options)}


def meant_circles(web):
    couples, names = meant_ahead(web), [name for name, _, _ in web]
    return {
        row for many in range(2, len(names) + 1) for row in itertools.permutations(names, many)
        if all(couple in couples for couple in zip(row, row[1:] + row[:1]))
    }


def meant_orders(web):
    couples, names = meant_ahead(web), [name for name, _, _ in web]
    return {
        row for row in itertools.permutations(names)
        if all(row.index(payer) < row.index(holder) for payer, holder in couples)
    }


class Persons(unittest.TestCase):
    def test_any(self):
        chance = source(220)
        for _ in range(100):
            web = some_web(chance)
            holders = {holder for _, _, holdings in web for holder, _ in holdings}
            self.assertEqual(persons_of(web), tuple(sorted(holders - {name for name, _, _ in web})))

    def test_edges(self):
        self.assertEqual([persons_of(()), persons_of((firm("asp"),)), persons_of((firm("asp"), firm("bay")))],
                         [(), (), ()])
        web = (firm("asp", ("zoe", (ONE,)), ("bay", (ONE,)), ("ann", (DUE,)), ("zoe", (("none",),))),
               firm("bay", ("asp", (ONE,))))
        self.assertEqual(persons_of(web), ("ann", "zoe"))


class Founded(unittest.TestCase):
    def check(self, web, name):
        self.assertEqual(first_unfounded(web), name)
        self.assertIs(is_founded(web), name is None)
        if name is None:
            self.assertIsNone(check_founded(web))
            return
        for check in (check_founded, check_clear):
            with self.assertRaises(NotFounded) as caught:
                check(web)
            self.assertEqual(caught.exception.name, name)
        self.assertIs(is_clear(web), False)

    def test_what_founds(self):
        for options, founds in (
            ((ONE,), True), ((("shares", (7, 3)),), True), ((ONE, ONE), False), ((DUE,), False), ((ONE, DUE), False),
            ((("option", (1, 1), (1, 1)),), False), ((("capped", ONE, (9, 1)),), False),
            ((("sum", (ONE, ONE)),), False), ((("none",),), False),
        ):
            self.check((firm("asp", ("ann", options)),), None if founds else "asp")
            self.check((firm("asp", ("ann", options), ("bob", options)),), None if founds else "asp")
            self.check((firm("asp", ("bob", (DUE,)), ("ann", options)),), None if founds else "asp")

    def test_firms_found_nothing(self):
        asp, bay = firm("asp", FOUNDER, ("bay", (ONE,))), firm("bay", ("asp", (ONE,)))
        self.check((asp, bay), "bay")
        self.check((firm("asp", ("bay", (ONE,))), bay), "asp")
        self.check((asp, firm("bay", ("asp", (ONE,)), FOUNDER)), None)
        # Of bay alone asp is no firm.
        self.check((bay,), None)

    def test_edges(self):
        self.check((), None)
        self.check((firm("asp"),), "asp")
        self.check((firm("asp", FOUNDER), firm("bay"), firm("cow")), "bay")

    def test_any(self):
        chance = source(221)
        for _ in range(100):
            web = some_web(chance)
            self.check(web, None)
            dropped = chance.choice(web)[0]
            self.check(tuple((name, ranks, tuple(one for one in holdings if one[1][0][0] != "shares"))
                             if name >= dropped else (name, ranks, holdings) for name, ranks, holdings in web), dropped)


class Circles(unittest.TestCase):
    def check(self, web):
        circles, orders = meant_circles(web), meant_orders(web)
        self.assertEqual(not circles, bool(orders))
        if circles:
            self.assertIn(circle_of(web), circles)
            self.assertIsNone(dues_order(web))
        else:
            self.assertIsNone(circle_of(web))
            self.assertIn(dues_order(web), orders)
        self.assertIs(is_clear(web), is_founded(web) and not circles)
        if is_founded(web) and circles:
            with self.assertRaises(Circle) as caught:
                check_clear(web)
            self.assertEqual(caught.exception.names, circle_of(web))
        names = [name for name, _, _ in web] + ["ann"]
        for many in range(min(len(names), 4) + 1):
            for row in itertools.product(names, repeat=many):
                self.assertIs(is_circle(web, row), row in circles)
                self.assertIs(is_dues_order(web, row), row in orders)

    def test_any(self):
        chance = source(222)
        kinds = {True: 0, False: 0}
        for _ in range(150):
            web = some_web(chance) if chance.random() < 0.6 else some_rings(chance)
            self.check(web)
            kinds[circle_of(web) is None] += 1
        self.assertTrue(all(many > 30 for many in kinds.values()), kinds)

    def test_circles_of_two_and_more_and_two_of_them(self):
        for couples in (
            (), (("asp", "bay"),), (("asp", "bay"), ("bay", "asp")), (("asp", "bay"), ("bay", "cow"), ("cow", "asp")),
            (("asp", "bay"), ("bay", "cow"), ("asp", "cow")), (("bay", "asp"), ("cow", "bay"), ("doe", "cow")),
            (("asp", "bay"), ("bay", "asp"), ("cow", "doe"), ("doe", "cow")),
            (("asp", "bay"), ("bay", "cow"), ("cow", "doe"), ("doe", "asp")),
            (("asp", "bay"), ("bay", "asp"), ("bay", "cow"), ("cow", "doe")),
            (("cow", "asp"), ("asp", "bay"), ("bay", "asp"), ("doe", "cow")),
        ):
            self.check(owing(*couples))
        self.assertEqual(dues_order(owing(("bay", "asp"), ("cow", "bay"), ("doe", "cow"))),
                         ("doe", "cow", "bay", "asp"))

    def test_where_the_due_stands(self):
        for claim, counts in ((ONE, False), (DUE, True), (("sum", (ONE, nested(5, DUE))), True), (nested(5, ONE), False),
                              (("capped", ("sum", (ONE, DUE)), (1, 9)), True), (("option", (1, 1), (1, 1)), False)):
            for options in ((claim,), (ONE, claim), (ONE, ONE, claim, ONE)):
                web = (firm("asp", FOUNDER, ("bay", options)), firm("bay", FOUNDER, ("asp", (ONE, DUE))))
                self.check(web)
                self.assertIs(circle_of(web) is not None, counts)

    def test_dues_of_persons_make_none(self):
        self.check((firm("asp", FOUNDER, ("bob", (DUE,))), firm("bay", FOUNDER, ("bob", (DUE,)))))
        self.check((firm("asp", ("zoe", (DUE,)), ("bay", (DUE,))), firm("bay", ("zoe", (DUE,)))))

    def test_without_firms_and_without_holdings(self):
        self.assertEqual([circle_of(()), dues_order(()), is_clear(()), is_dues_order((), ()), is_circle((), ())],
                         [None, (), True, True, False])
        web = (firm("asp"), firm("bay"))
        self.assertEqual([circle_of(web), sorted(dues_order(web)), is_clear(web)], [None, ["asp", "bay"], False])
        self.assertEqual([is_dues_order(web, ("bay", "asp")), is_dues_order(web, ("asp", "bay"))], [True, True])

    def test_wrong_values(self):
        chance = source(223)
        ring = owing(("asp", "bay"), ("bay", "asp"))
        row = owing(("asp", "bay"), ("bay", "cow"))
        for thing in (*ODD_VALUES, ["asp", "bay"], ("asp", "bay", "asp"), ("asp", "asp"), ("asp", ["bay"]), ("asp", {}),
                      ("asp",), ("asp", "ann"), ("asp", 1), {"asp": 1, "bay": 2}, "asp", ("asp", "bay", "asp", "bay")):
            self.assertIs(is_circle(ring, thing), False, thing)
        for thing in (*ODD_VALUES, list(NAMES[:4]), NAMES[:3], NAMES[:5], NAMES[:4] + ("asp",), ("asp", [], {}, 1),
                      ("bay", "asp", "cow", "doe"), {name: 1 for name in NAMES[:4]}):
            self.assertIs(is_dues_order(row, thing), False, thing)
        others = (*ODD_VALUES, *NAMES, "ann")
        circles, orders = meant_circles(ring), meant_orders(row)
        for _ in range(500):
            thing = exchanged_deep(chance, ("asp", "bay"), others)
            self.assertIs(is_circle(ring, thing), repr(thing) in map(repr, circles))
            thing = exchanged_deep(chance, NAMES[:4], others)
            self.assertIs(is_dues_order(row, thing), repr(thing) in map(repr, orders))


if __name__ == "__main__":
    unittest.main()
