"""[33] walks, [34] what is taken and from when on, and [9]: straight stretches, at most one more than corners."""

import unittest
from fractions import Fraction

from bounds import great_amounts, great_web, within
from making import ODD_VALUES, exchanged_deep, meant, source, told
from soldwhole.chosen import most_curves
from soldwhole.curves import corners_many
from soldwhole.onefirm import by_amount
from soldwhole.walks import changes, had_on, is_walk, most_on, paid_on, pay_line, walk
from soldwhole.webs import persons_of
from walking import (
    TINY, corners_of, drawn, looked_on, meant_had, meant_most, meant_pays, some_more,
)
from webmaking import some_clear_web

NOUGHT, ONE, FOUR, HALF = (0, 1), (1, 1), (4, 1), (1, 2)
SHARE, DUE = ("shares", ONE), ("due", 0, FOUR)
WEB = (("a", 1, (("x", (SHARE,)), ("y", (DUE, SHARE)))),)
FROM, TO = {"a": NOUGHT}, {"a": (16, 1)}
FOUND = ((NOUGHT, {"a": NOUGHT}), ((1, 4), {"a": FOUR}), (HALF, {"a": (8, 1)}), (ONE, {"a": (16, 1)}))


def put_between(web, one, other, found, t):
    """A WALK with one STATION more, at t."""
    had = {name: told(much) for name, much in meant_had(web, one, other, meant(t)).items()}
    ahead = tuple(row for row in found if meant(row[0]) < meant(t))
    return ahead + ((t, had),) + tuple(row for row in found if meant(row[0]) > meant(t))


class Walks(unittest.TestCase):
    def test_stations_are_where_a_corner_is_passed(self):
        stations = 0
        for _, web, one, other in drawn(330, 70):
            found, corners = walk(web, one, other), corners_of(web)
            names = [firm[0] for firm in web]
            self.assertIsInstance(found, tuple)
            self.assertEqual([found[0][0], found[-1][0]], [NOUGHT, ONE])
            for t, had in found:
                self.assertEqual(list(had), names)
                self.assertEqual({name: meant(much) for name, much in had.items()}, meant_had(web, one, other, meant(t)))
            for (low, less), (high, more) in zip(found, found[1:]):
                self.assertLess(meant(low), meant(high))
                for name in names:
                    self.assertLessEqual(meant(less[name]), meant(more[name]))
                    self.assertFalse([one for one in corners[name] if meant(less[name]) < one < meant(more[name])])
            for t, had in found[1:-1]:
                below, above = (meant_had(web, one, other, meant(t) + step) for step in (-TINY, TINY))
                self.assertTrue([name for name in names if meant(had[name]) in corners[name]
                                 and below[name] < meant(had[name]) < above[name]])
                stations += 1
            self.assertIs(is_walk(web, one, other, found), True)
        self.assertGreater(stations, 150)

    def test_what_is_had_and_paid_at_any_t(self):
        for chance, web, one, other in drawn(331, 40):
            found = walk(web, one, other)
            for t in chance.sample(looked_on([t for t, _ in found]), 5) + [Fraction(0), Fraction(1)]:
                had, paid = had_on(found, told(t)), paid_on(web, found, told(t))
                self.assertEqual({name: meant(much) for name, much in had.items()}, meant_had(web, one, other, t))
                self.assertEqual({name: meant(pay) for name, pay in paid.items()}, meant_pays(web, one, other, t))
                self.assertEqual([list(had), tuple(paid)], [sorted(had), persons_of(web)])

    def test_a_corner_that_is_only_touched_at_an_end(self):
        """bay has no more than 4 from asp, where its own corner lies: it comes to it, and goes no further."""
        asp = ("asp", 1, (("ann", (SHARE,)), ("bay", (DUE,))))
        bay = ("bay", 1, (("ann", (SHARE,)), ("bob", (DUE,))))
        web, one, other = (asp, bay), {"asp": NOUGHT, "bay": NOUGHT}, {"asp": (8, 1), "bay": NOUGHT}
        found = walk(web, one, other)
        self.assertEqual([t for t, _ in found], [NOUGHT, HALF, ONE])
        self.assertEqual(found[1][1], {"asp": FOUR, "bay": FOUR})
        # By itself, this corner of bay is no station: here asp ends just at its own.
        self.assertEqual([t for t, _ in walk(web, one, {"asp": FOUR, "bay": NOUGHT})], [NOUGHT, ONE])
        self.assertEqual([t for t, _ in walk(web, {"asp": FOUR, "bay": NOUGHT}, other)], [NOUGHT, ONE])
        # Who stays at a corner first and leaves it later passes none: but asp, which lets it go, does.
        late = ("asp", 2, (("ann", (("due", 0, FOUR), ("shares", ONE))), ("bay", (SHARE,)), ("ann", (SHARE,))))
        found = walk((late, bay), {"asp": NOUGHT, "bay": FOUR}, {"asp": (8, 1), "bay": FOUR})
        self.assertEqual([(t, had["asp"]) for t, had in found], [(NOUGHT, NOUGHT), (HALF, FOUR), (ONE, (8, 1))])
        self.assertEqual(found[1][1]["bay"], FOUR)

    def test_corners_that_only_persons_see(self):
        """What of asp comes to bay goes straight; ann and bob change places in what is left."""
        bay = ("bay", 0, (("ann", (SHARE,)),))
        web = (("asp", 0, (("ann", (SHARE,)), ("bay", (("shares", (2, 1)),)), ("bob", (("capped", SHARE, ONE),)),
                           ("cat", (("option", ONE, ONE),)))), bay)
        found = walk(web, {"asp": NOUGHT, "bay": NOUGHT}, {"asp": (8, 1), "bay": NOUGHT})
        self.assertEqual([t for t, _ in found], [NOUGHT, HALF, ONE])

    def test_edges(self):
        self.assertEqual(walk(WEB, FROM, TO), FOUND)
        self.assertEqual(walk(WEB, TO, TO), ((NOUGHT, TO), (ONE, TO)))
        self.assertEqual(walk(WEB, FROM, FROM), ((NOUGHT, FROM), (ONE, FROM)))
        self.assertEqual(walk((), {}, {}), ((NOUGHT, {}), (ONE, {})))
        self.assertEqual([had_on(((NOUGHT, {}), (ONE, {})), HALF), paid_on((), walk((), {}, {}), HALF)], [{}, {}])
        # A corner at one end is none between.
        self.assertEqual(len(walk(WEB, {"a": FOUR}, {"a": (8, 1)})), 2)
        self.assertEqual(len(walk(WEB, {"a": (3, 1)}, {"a": (8, 1)})), 3)
        self.assertEqual(len(walk(WEB, {"a": (10 ** 199, 7)}, {"a": (10 ** 200, 7)})), 2)

    def test_firms_that_pass_corners_at_once(self):
        bay = ("b", 1, WEB[0][2])
        found = walk((WEB[0], bay), {"a": NOUGHT, "b": NOUGHT}, {"b": (16, 1), "a": (16, 1)})
        self.assertEqual([t for t, _ in found], [t for t, _ in FOUND])
        found = walk((WEB[0], bay), {"a": NOUGHT, "b": NOUGHT}, {"b": (16, 1), "a": NOUGHT})
        self.assertEqual([had for _, had in found], [{"a": NOUGHT, "b": had["a"]} for _, had in FOUND])

    def test_straight_stretches_are_few_and_none_falls(self):
        for _, web, one, other in drawn(332, 60):
            found = walk(web, one, other)
            most = sum(corners_many(one) for curves in most_curves(web).values() for one in curves)
            for person in (*persons_of(web), "zoe"):
                line = pay_line(web, found, person)
                self.assertLessEqual(len(line) - 1, most + 1)
                self.assertTrue(all(meant(low[1]) <= meant(high[1]) for low, high in zip(line, line[1:])))


class WalkForms(unittest.TestCase):
    def test_more_stations_will_do_fewer_will_not(self):
        kinds = {True: 0, False: 0}
        for chance, web, one, other in drawn(333, 40):
            found = walk(web, one, other)
            more = found
            for _ in range(3):
                more = put_between(web, one, other, more, told(Fraction(chance.randint(1, 59), 60)))
            self.assertIs(is_walk(web, one, other, more), True)
            for place in range(len(more)):
                fewer = more[:place] + more[place + 1:]
                right = 0 < place < len(more) - 1 and set(t for t, _ in found) <= set(t for t, _ in fewer)
                self.assertIs(is_walk(web, one, other, fewer), right)
                kinds[right] += 1
        self.assertTrue(all(many > 50 for many in kinds.values()), kinds)

    def test_stations_moved_and_exchanged(self):
        for chance, web, one, other in drawn(334, 40):
            found = walk(web, one, other)
            if one == other or len(found) < 3:
                continue
            place = chance.randrange(1, len(found) - 1)
            (t, had), ahead, behind = found[place], found[:place], found[place + 1:]
            closer = told((meant(t) + meant(ahead[-1][0])) / 2)
            self.assertIs(is_walk(web, one, other, (*ahead, (closer, had), *behind)), False)
            self.assertIs(is_walk(web, one, other, (*ahead, behind[0], (t, had), *behind[1:])), False)
            self.assertIs(is_walk(web, one, other, (*ahead, (t, behind[0][1]), *behind)), False)
            self.assertIs(is_walk(web, one, other, (*ahead, (t, had), (t, had), *behind)), False)
            self.assertIs(is_walk(web, one, other, found[::-1]), False)
            self.assertIs(is_walk(web, other, other, found), False)
            turned = {name: had[name] for name in reversed(list(had))}
            self.assertIs(is_walk(web, one, other, (*ahead, (t, turned), *behind)), True)

    def test_wrong_values(self):
        first, *between, last = FOUND
        for thing in (
            *ODD_VALUES, list(FOUND), FOUND[1:], FOUND[:-1], (), (first,), (last,), (first, last), FOUND + (last,),
            (first, first, *between, last), FOUND[:1] + ((2, {"a": FOUR}),) + FOUND[2:],
            ((NOUGHT, FROM, None), *FOUND[1:]), ((NOUGHT,), *FOUND[1:]), ([NOUGHT, FROM], *FOUND[1:]),
            ((0, FROM), *FOUND[1:]), (((False, True), FROM), *FOUND[1:]), (((0, 2), FROM), *FOUND[1:]),
            ((None, FROM), *FOUND[1:]), ((NOUGHT, None), *FOUND[1:]), ((NOUGHT, {}), *FOUND[1:]),
            ((NOUGHT, {"a": 0}), *FOUND[1:]), ((NOUGHT, {"a": (False, 1)}), *FOUND[1:]),
            ((NOUGHT, {"a": NOUGHT, "b": NOUGHT}), *FOUND[1:]), ((NOUGHT, {"b": NOUGHT}), *FOUND[1:]),
            ((NOUGHT, {"a": (-1, 1)}), *FOUND[1:]), (((-1, 2), FROM), *FOUND), (*FOUND, ((3, 2), TO)),
            (*FOUND[:-1], ((3, 2), TO)), (*FOUND[:-1], ((10 ** 999, 1), TO)), FOUND + (None,),
            ((NOUGHT, ("a", NOUGHT)), *FOUND[1:]), (((0, 1), [("a", NOUGHT)]), *FOUND[1:]), dict(FOUND[:0]),
        ):
            self.assertIs(is_walk(WEB, FROM, TO, thing), False, thing)
        self.assertIs(is_walk(WEB, FROM, TO, FOUND), True)
        self.assertIs(is_walk(WEB, FROM, {"a": (15, 1)}, FOUND), False)
        self.assertIs(is_walk((), {}, {}, ((NOUGHT, {}), (ONE, {}))), True)
        self.assertIs(is_walk((), {}, {}, ((NOUGHT, {}), (HALF, {}), (ONE, {}))), True)
        self.assertIs(is_walk((), {}, {}, ((NOUGHT, {}), (HALF, {}))), False)

    def test_parts_exchanged(self):
        chance = source(335)
        right = 0
        for _ in range(300):
            thing = exchanged_deep(chance, FOUND, (*ODD_VALUES, FROM, TO, HALF, *FOUND))
            found = is_walk(WEB, FROM, TO, thing)
            self.assertIs(found, thing == FOUND and repr(thing) == repr(FOUND) or self.is_meant(thing), thing)
            right += found
        self.assertGreater(right, 0)

    def is_meant(self, thing):
        """By the words of the promise, for this web of one firm, which HAS 16 times t."""
        if not isinstance(thing, tuple) or not all(isinstance(row, tuple) and len(row) == 2 for row in thing):
            return False
        rows = [row for row in thing if row in FOUND]
        return len(rows) == len(thing) and [repr(row) for row in thing] == [repr(row) for row in FOUND]


class Lines(unittest.TestCase):
    def test_a_line_bends_where_it_must_and_nowhere_else(self):
        bends = 0
        for chance, web, one, other in drawn(336, 50):
            found = walk(web, one, other)
            longer = put_between(web, one, other, found, told(Fraction(chance.randint(1, 30), 31)))
            for person in (*persons_of(web), "zoe"):
                line = pay_line(web, found, person)
                self.assertEqual(pay_line(web, longer, person), line)
                self.assertEqual([line[0][0], line[-1][0]], [NOUGHT, ONE])
                for t, pay in line:
                    self.assertEqual(meant(pay), meant_pays(web, one, other, meant(t)).get(person, 0))
                rises = [(meant(high[1]) - meant(low[1])) / (meant(high[0]) - meant(low[0]))
                         for low, high in zip(line, line[1:])]
                self.assertTrue(all(before != behind for before, behind in zip(rises, rises[1:])))
                for (low, _), (high, _) in zip(line, line[1:]):
                    middle = (meant(low) + meant(high)) / 2
                    pays = [meant_pays(web, one, other, t).get(person, 0) for t in (meant(low), middle, meant(high))]
                    self.assertEqual(pays[0] + pays[2], 2 * pays[1])
                bends += len(line) - 2
        self.assertGreater(bends, 80)

    def test_edges(self):
        self.assertEqual(pay_line(WEB, FOUND, "zoe"), ((NOUGHT, NOUGHT), (ONE, NOUGHT)))
        self.assertEqual(pay_line(WEB, FOUND, "x"), ((NOUGHT, NOUGHT), ((1, 4), NOUGHT), (HALF, FOUR), (ONE, (8, 1))))
        self.assertEqual(pay_line(WEB, ((NOUGHT, TO), (ONE, TO)), "y"), ((NOUGHT, (8, 1)), (ONE, (8, 1))))
        self.assertEqual(pay_line((), walk((), {}, {}), "y"), ((NOUGHT, NOUGHT), (ONE, NOUGHT)))
        both = (("a", 1, (("x", (SHARE,)), ("x", (DUE, SHARE)))),)
        self.assertEqual(pay_line(both, FOUND, "x"), ((NOUGHT, NOUGHT), (ONE, (16, 1))))


class Taken(unittest.TestCase):
    def test_what_claims_most_at_any_t(self):
        for chance, web, one, other in drawn(337, 40):
            found = walk(web, one, other)
            for t in chance.sample(looked_on([t for t, _ in found]), 4) + [Fraction(0), Fraction(1)]:
                most = most_on(web, found, told(t))
                self.assertEqual(most, meant_most(web, one, other, t))
                self.assertEqual(list(most), [firm[0] for firm in web])

    def test_changes_are_just_where_the_entry_changes(self):
        kinds = {}
        for _, web, one, other in drawn(338, 45):
            found = walk(web, one, other)
            for name, _, holdings in web:
                for index, (_, options) in enumerate(holdings):
                    told_ones = changes(web, found, name, index)
                    self.check(web, one, other, name, index, told_ones)
                    kinds[len(told_ones)] = kinds.get(len(told_ones), 0) + (len(options) > 1)
        self.assertTrue(all(kinds[many] > 2 for many in range(3)), kinds)

    def check(self, web, one, other, name, index, told_ones):
        def entry(t):
            return meant_most(web, one, other, t)[name][index]

        moments = [meant(t) for t in told_ones]
        self.assertEqual(moments, sorted(set(moments)))
        for t in moments:
            beside = [entry(t + step) for step in (-TINY, TINY) if 0 <= t + step <= 1]
            self.assertTrue(any(entry(t) != one for one in beside))
        ends = sorted(set([Fraction(0), Fraction(1)] + moments))
        for low, high in zip(ends, ends[1:]):
            inside = [entry(low + (high - low) * part) for part in (TINY, Fraction(1, 7), Fraction(3, 5), 1 - TINY)]
            inside += [entry(t) for t in (low, high) if t not in moments]
            self.assertEqual(len(set(inside)), 1)

    def test_edges(self):
        self.assertEqual([changes(WEB, FOUND, "a", index) for index in (0, 1)], [(), (NOUGHT, HALF)])
        self.assertEqual([most_on(WEB, FOUND, t)["a"][1] for t in (NOUGHT, (1, 100), HALF, (51, 100), ONE)],
                         [(0, 1), (0,), (0, 1), (1,), (1,)])
        # Alike from a level on, never, always.
        for options, moments in (
            ((("capped", SHARE, ONE), ("due", 0, ONE)), (NOUGHT, HALF)), ((DUE, DUE), ()), ((SHARE, DUE), (NOUGHT,)),
            ((("none",), DUE), (NOUGHT,)), ((SHARE, ("option", ONE, ONE)), (NOUGHT,)), ((("none",), ("none",)), ()),
            ((("sum", (DUE, SHARE)), DUE), ()), ((("due", 0, ONE), ("capped", DUE, ONE)), (NOUGHT, (1, 4))),
        ):
            web, to = (("a", 1, (("x", (SHARE,)), ("y", options))),), {"a": FOUR}
            found = walk(web, FROM, to)
            told_ones = changes(web, found, "a", 1)
            self.check(web, FROM, to, "a", 1, told_ones)
            self.assertEqual(told_ones, moments, options)
        # Where nothing bends, so that no station is there, one option may stay behind another one.
        web = (("a", 1, (("x", (SHARE,)), ("y", (SHARE, ("capped", SHARE, ONE))))),)
        found = walk(web, FROM, {"a": FOUR})
        self.assertEqual([len(found), changes(web, found, "a", 1)], [2, (HALF,)])
        self.assertEqual([most_on(web, found, t)["a"][1] for t in ((1, 4), HALF, (3, 4))], [(0, 1), (0, 1), (0,)])
        # Nothing rises, so nothing changes, also where something would.
        for amount in (NOUGHT, (8, 1), (9, 1)):
            still = {"a": amount}
            self.assertEqual(changes(WEB, walk(WEB, still, still), "a", 1), ())

    def test_one_side_alone_at_both_ends(self):
        self.assertEqual(changes(WEB, walk(WEB, {"a": (8, 1)}, TO), "a", 1), (NOUGHT,))
        self.assertEqual(changes(WEB, walk(WEB, {"a": FOUR}, {"a": (8, 1)}), "a", 1), (ONE,))
        self.assertEqual(changes(WEB, walk(WEB, {"a": (9, 1)}, TO), "a", 1), ())

    def test_a_firm_that_waits_at_an_amount(self):
        """b has 8 while a's first dues are paid, and more later: at the end of waiting its entry changes."""
        first = ("a", 2, (("x", (SHARE,)), ("x", (DUE,)), ("b", (("due", 1, FOUR),))))
        web = (first, ("b", 1, WEB[0][2]))
        one, other = {"a": NOUGHT, "b": (8, 1)}, {"a": (16, 1), "b": (8, 1)}
        found = walk(web, one, other)
        told_ones = changes(web, found, "b", 1)
        self.check(web, one, other, "b", 1, told_ones)
        self.assertEqual(told_ones, ((1, 4),))

    def test_a_level_that_leaps(self):
        """Where nothing rises the level leaps: what claims as much from inside of it on is taken only behind it."""
        options = (("due", 0, FOUR), ("due", 1, FOUR), ("sum", (("due", 1, FOUR), ("due", 2, FOUR))))
        web = (("a", 3, (("x", (SHARE,)), ("y", options))),)
        found = walk(web, FROM, TO)
        self.assertEqual(changes(web, found, "a", 1), (NOUGHT, (1, 4)))
        self.assertEqual([most_on(web, found, t)["a"][1] for t in ((1, 8), (1, 4), (3, 8), (3, 4))],
                         [(0,), (0,), (2,), (2,)])

    def test_a_firms_holdings(self):
        web = (("a", 1, (("x", (SHARE,)), ("b", (DUE, SHARE)))), ("b", 0, (("x", (SHARE,)),)))
        one, other = {"a": NOUGHT, "b": NOUGHT}, {"a": (16, 1), "b": NOUGHT}
        found = walk(web, one, other)
        self.assertEqual(changes(web, found, "a", 1), (NOUGHT, HALF))
        self.assertEqual(most_on(web, found, (3, 4)), {"a": ((0,), (1,)), "b": ((0,),)})


class Kept(unittest.TestCase):
    def test_what_is_told_is_new(self):
        found = walk(WEB, FROM, TO)
        for row in (had_on(found, (1, 4)), paid_on(WEB, found, (1, 4)), most_on(WEB, found, ONE), found[1][1]):
            row.clear()
        self.assertEqual(walk(WEB, FROM, TO), FOUND)
        still = walk(WEB, TO, TO)
        self.assertEqual(len({id(had) for _, had in still} | {id(TO)}), 3)
        had = had_on(FOUND, ONE)
        had["a"] = NOUGHT
        self.assertEqual(had_on(FOUND, ONE), TO)


class Bounds(unittest.TestCase):
    def test_great_webs(self):
        for seed, firms_part in ((0, 0.7), (1, 0.4)):
            web, one = great_web(seed, firms_part=firms_part), great_amounts(seed, 20)
            other = {name: told(meant(much) + 3000 + seed) for name, much in one.items()}
            with within(self):
                found = walk(web, one, other)
            self.assertGreater(len(found), 100)
            with within(self):
                self.assertIs(is_walk(web, one, other, found), True)
                self.assertIs(is_walk(web, one, other, found[:50] + found[51:]), False)
            with within(self):
                line = pay_line(web, found, "bob")
                paid = paid_on(web, found, (1, 3))
                self.assertEqual({name: meant(pay) for name, pay in paid.items()},
                                 meant_pays(web, one, other, Fraction(1, 3)))
                self.assertGreater(len(line), 10)
            with within(self):
                self.assertEqual(most_on(web, found, (1, 7)), meant_most(web, one, other, Fraction(1, 7)))
                for firm in ("asp", "fox"):
                    for index in range(5):
                        changes(web, found, firm, index)

    def test_thirty_holdings_of_one_firm(self):
        chance = source(339)
        web = some_clear_web(chance, 1, 29)
        while len(web[0][2]) < 20:
            web = some_clear_web(chance, 1, 29)
        one = {"asp": NOUGHT}
        other = some_more(chance, web, one, 200)
        found = walk(web, one, other)
        self.assertEqual([had for _, had in found[:1]], [one])
        self.assertEqual(len(by_amount(most_curves(web)["asp"])), len(web[0][2]))


if __name__ == "__main__":
    unittest.main()
