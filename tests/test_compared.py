"""[35] two webs compared."""

import unittest
from fractions import Fraction

from bounds import great_amounts, great_web, within
from making import above_zero, meant, source, told
from soldwhole.claims import scaled_claim
from soldwhole.compared import alike, always_alike, better, first_amount, first_unlike
from soldwhole.webs import is_clear, persons_of
from walking import TINY, drawn, looked_on, meant_pays

NOUGHT, ONE, FOUR, HALF = (0, 1), (1, 1), (4, 1), (1, 2)
SHARE, DUE = ("shares", ONE), ("due", 0, FOUR)
WEB = (("a", 1, (("x", (SHARE,)), ("y", (DUE, SHARE)))),)
RIVAL = (("a", 1, (("x", (SHARE,)), ("y", (DUE,)))),)
FROM, TO = {"a": NOUGHT}, {"a": (16, 1)}


def changed(chance, web):
    """A CLEAR WEB of the same FIRMS with something of a holding or two otherwise; perhaps nobody is paid otherwise."""
    for _ in range(chance.choice((1, 1, 2))):
        found = changed_once(chance, web)
        web = found if is_clear(found) else web
    return web


def changed_once(chance, web):
    place = chance.randrange(len(web))
    name, ranks, holdings = web[place]
    at = chance.choice([at for at, (holder, _) in enumerate(holdings) if holder not in [firm[0] for firm in web]])
    holder, options = holdings[at]
    kind = chance.randrange(6)
    if kind == 0:
        options = (*options, ("capped", options[0], (7, 1)))
    elif kind == 1:
        options = tuple(("capped", option, chance.choice((ONE, (3, 1), (9, 1)))) for option in options)
    elif kind == 2:
        holder = chance.choice(("ann", "bob", "cat", "zoe"))
    elif kind == 3:
        options = tuple(("sum", (option, ("option", ONE, (3, 1)))) for option in reversed(options))
    elif kind == 4:
        options = tuple(scaled_claim(option, chance.choice(((1, 2), (3, 1)))) for option in options)
    rows = (*holdings[:at], (holder, options), *holdings[at + 1:])
    return (*web[:place], (name, ranks, rows if kind < 5 else (*rows, ("zoe", (("option", ONE, (3, 1)),)))), *web[place + 1:])


def some_parts(chance):
    """A sum of shares that are capped, and options, so that its pay rises now more and now less."""
    capped = tuple(("capped", ("shares", above_zero(chance, 4)), above_zero(chance, 4)) for _ in range(2))
    return ("sum", (*capped, ("option", above_zero(chance, 4), above_zero(chance, 3)), SHARE))


def gap(web, rival, one, other, person, t):
    """By how much more a person is PAID by rival at t."""
    return meant_pays(rival, one, other, t).get(person, 0) - meant_pays(web, one, other, t).get(person, 0)


def couples(seed, many, most_firms=2):
    for chance, web, one, other in drawn(seed, many, most_firms):
        yield chance, web, changed(chance, web), one, other


class Better(unittest.TestCase):
    def test_just_where_more_is_paid(self):
        kinds = {}
        for chance, web, rival, one, other in couples(350, 45):
            for person in chance.sample(sorted({*persons_of(web), *persons_of(rival), "eve"}), 2):
                found = better(web, rival, one, other, person)
                self.check(web, rival, one, other, person, found)
                kinds[len(found)] = kinds.get(len(found), 0) + 1
        self.assertTrue(kinds[0] > 10 and kinds[1] > 5, kinds)

    def check(self, web, rival, one, other, person, found):
        self.assertIsInstance(found, list)
        ends = [meant(t) for couple in found for t in couple]
        self.assertEqual(ends, sorted(ends))
        self.assertTrue(all(low != high for low, high in found))
        for t in looked_on([end for couple in found for end in couple]):
            inside = any(meant(low) < t < meant(high) for low, high in found)
            more = gap(web, rival, one, other, person, t) > 0
            # At 0 and 1 themselves nothing is said; at all other ends not more is paid.
            self.assertTrue(inside == more or t in (0, 1), (t, found))

    def test_several_stretches(self):
        """y has a half, or three parts of four up to 3, and again from a later level on."""
        plain = (("a", 0, (("x", (SHARE,)), ("y", (SHARE,)))),)
        three = ("shares", (3, 1))
        for price, stretches, back in (
            (FOUR, [(NOUGHT, (3, 8)), ((9, 16), ONE)], [((3, 8), (9, 16))]),
            # Just where y has a half only, it has more again: the stretches meet there.
            ((3, 1), [(NOUGHT, (3, 8)), ((3, 8), ONE)], []), ((2, 1), [(NOUGHT, ONE)], []),
        ):
            parts = (("capped", three, (3, 1)), ("option", (3, 1), price))
            rival = (("a", 0, (("x", (SHARE,)), ("y", (("sum", parts),)))),)
            self.assertEqual(better(plain, rival, FROM, TO, "y"), stretches)
            self.assertEqual(better(rival, plain, FROM, TO, "y"), back)
            self.assertEqual(better(rival, plain, FROM, TO, "x"), stretches)
            self.check(plain, rival, FROM, TO, "y", stretches)
            self.check(rival, plain, FROM, TO, "y", back)

    def test_edges(self):
        self.assertEqual([better(WEB, RIVAL, FROM, TO, person) for person in ("x", "y", "zoe")], [[(HALF, ONE)], [], []])
        self.assertEqual([better(RIVAL, WEB, FROM, TO, person) for person in ("x", "y", "zoe")], [[], [(HALF, ONE)], []])
        self.assertEqual(better(WEB, RIVAL, TO, TO, "x"), [(NOUGHT, ONE)])
        self.assertEqual(better(WEB, RIVAL, FROM, {"a": (8, 1)}, "x"), [])
        self.assertEqual(better(WEB, RIVAL, {"a": (8, 1)}, TO, "x"), [(NOUGHT, ONE)])
        self.assertEqual(better((), (), {}, {}, "x"), [])
        # Who holds something by one of both alone.
        other = (("a", 1, (("x", (SHARE,)), ("w", (DUE, SHARE)))),)
        self.assertEqual([better(WEB, other, FROM, TO, person) for person in "wxy"], [[(NOUGHT, ONE)], [], []])


class Unlike(unittest.TestCase):
    def test_up_to_where_all_are_paid_alike(self):
        kinds = {"alike": 0, "at 0": 0, "later": 0, "from 0 on": 0}
        for _, web, rival, one, other in couples(351, 90):
            found = first_unlike(web, rival, one, other)
            self.assertIs(alike(web, rival, one, other), found is None)
            persons = sorted({*persons_of(web), *persons_of(rival)})

            def unlike(t):
                return [person for person in persons if gap(web, rival, one, other, person, t) != 0]

            if found is None:
                self.assertFalse([t for t in looked_on([], [Fraction(k, 7) for k in range(7)]) if unlike(t)])
                kinds["alike"] += 1
                continue
            t, person = meant(found[0]), found[1]
            if t == 0 and unlike(t):
                self.assertEqual(person, unlike(t)[0])
                kinds["at 0"] += 1
                continue
            self.assertFalse([part for part in (0, t / 3, t / 2, t) if unlike(part)])
            self.assertEqual(person, unlike(t + TINY)[0])
            kinds["later" if t > 0 else "from 0 on"] += 1
        self.assertTrue(all(many > 3 for many in kinds.values()), kinds)

    def test_edges(self):
        self.assertEqual([first_unlike(WEB, RIVAL, FROM, TO), first_unlike(RIVAL, WEB, FROM, TO)], [(HALF, "x")] * 2)
        self.assertIsNone(first_unlike(WEB, RIVAL, FROM, {"a": (8, 1)}))
        self.assertEqual(first_unlike(WEB, RIVAL, {"a": (8, 1)}, TO), (NOUGHT, "x"))
        self.assertEqual(first_unlike(WEB, RIVAL, {"a": (9, 1)}, TO), (NOUGHT, "x"))
        self.assertEqual(first_unlike(WEB, RIVAL, TO, TO), (NOUGHT, "x"))
        self.assertIsNone(first_unlike(WEB, WEB, FROM, TO))
        self.assertIsNone(first_unlike((), (), {}, {}))
        self.assertIs(alike((), (), {}, {}), True)
        # At 0 cat and dan are paid otherwise, just above it ann, too: who is at 0 goes ahead.
        web = (("a", 1, (("dan", (SHARE,)), ("cat", (DUE,)))), ("b", 0, (("ann", (SHARE,)), ("bob", (SHARE,)))))
        rival = (("a", 1, (("dan", (SHARE,)), ("cat", (("due", 0, ONE),)))), ("b", 0, (("ann", (SHARE,)),)))
        one, other = {"a": (2, 1), "b": NOUGHT}, {"a": (3, 1), "b": ONE}
        self.assertEqual(first_unlike(web, rival, one, other), (NOUGHT, "cat"))
        self.assertEqual(first_unlike(web, rival, {"a": NOUGHT, "b": NOUGHT}, other), (NOUGHT, "ann"))
        self.assertEqual(first_unlike(web, rival, {"a": NOUGHT, "b": NOUGHT}, {"a": (2, 1), "b": NOUGHT}), (HALF, "cat"))

    def test_the_same_web_said_otherwise(self):
        said = (("a", 1, (("y", (("capped", SHARE, FOUR), DUE, ("sum", (SHARE, ("none",))))), ("x", (("none",),)),
                          ("x", (SHARE,)))),)
        self.assertEqual([first_unlike(WEB, said, FROM, TO), alike(said, WEB, FROM, TO), better(WEB, said, FROM, TO, "y")],
                         [None, True, []])
        self.assertEqual([always_alike(WEB, said), first_amount(said, WEB)], [True, None])
        # More shares of all are no more than fewer of all, if nothing else is counted.
        twice = (("a", 0, (("x", (("shares", (2, 1)),)), ("y", (("shares", (6, 1)),)))),)
        once = (("a", 3, (("y", (("shares", (3, 1)),)), ("x", (SHARE,)))),)
        self.assertEqual([first_unlike(twice, once, FROM, TO), always_alike(twice, once)], [None, True])


class OneFirm(unittest.TestCase):
    def test_all_amounts(self):
        kinds = {True: 0, False: 0}
        for chance, web, rival, _, _ in couples(352, 120, 1):
            found = first_amount(web, rival)
            self.assertIs(always_alike(web, rival), found is None)
            persons = sorted({*persons_of(web), *persons_of(rival)})
            far = {"asp": (10 ** 4, 1)}
            if found is None:
                self.assertIs(alike(web, rival, {"asp": NOUGHT}, far), True)
            else:
                amount = meant(found)
                above = {"asp": told(amount + TINY)}
                self.assertIs(alike(web, rival, {"asp": NOUGHT}, {"asp": found}), True)
                self.assertTrue([person for person in persons if gap(web, rival, above, above, person, Fraction(0)) != 0])
            kinds[found is None] += 1
        self.assertTrue(all(many > 10 for many in kinds.values()), kinds)

    def test_edges(self):
        self.assertEqual([always_alike(WEB, RIVAL), first_amount(WEB, RIVAL), first_amount(RIVAL, WEB)],
                         [False, (8, 1), (8, 1)])
        self.assertEqual([always_alike(WEB, WEB), first_amount(WEB, WEB)], [True, None])
        # Unlike from 0 on, and unlike beyond the last corner alone.
        other = (("a", 1, (("x", (SHARE,)), ("w", (DUE, SHARE)))),)
        self.assertEqual(first_amount(WEB, other), NOUGHT)
        steeper = (("a", 1, (("x", (SHARE,)), ("y", (DUE, ("sum", (SHARE, ("option", ONE, (9, 1)))))))),)
        self.assertEqual(first_amount(WEB, steeper), (18, 1))
        none = (("a", 1, (("x", (SHARE,)), ("y", (DUE, SHARE)), ("zoe", (("none",),)))),)
        self.assertEqual([always_alike(WEB, none), first_amount(none, WEB)], [True, None])


class Bounds(unittest.TestCase):
    def test_great_webs(self):
        web, one = great_web(4, firms_part=0.4), great_amounts(4, 20)
        chance = source(353)
        rival = changed(chance, web)
        other = {name: told(meant(much) + 2000) for name, much in one.items()}
        with within(self):
            first_unlike(web, rival, one, other)
        with within(self):
            self.assertIs(alike(web, web, one, other), True)
        with within(self):
            better(web, great_web(5, firms_part=0.4), one, other, "ann")


class Drawn(unittest.TestCase):
    def test_webs_of_one_firm_by_which_now_one_is_better_and_now_the_other(self):
        chance = source(354)
        check, several = Better("test_edges").check, 0
        for _ in range(60):
            web, rival = ((("asp", 0, (("ann", (SHARE,)), ("bob", (some_parts(chance), some_parts(chance))),
                                       ("ann", (some_parts(chance),)))),) for _ in range(2))
            one, other = {"asp": NOUGHT}, {"asp": (40, 1)}
            person = chance.choice(("ann", "bob"))
            found = better(web, rival, one, other, person)
            check(web, rival, one, other, person, found)
            several += len(found) > 1
        self.assertGreater(several, 3)


if __name__ == "__main__":
    unittest.main()
