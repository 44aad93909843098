"""[38] offers and votes."""

import unittest

from bounds import great_amounts, great_web, within
from making import ODD_VALUES, exchanged_deep, meant, source
from offering import VOTERS, drawn, is_meant_carried, meant_gains, meant_willing, some_class, some_classes
from soldwhole.forms import is_fraction
from soldwhole.offers import gainers, gains, is_carried, is_carried_alone, is_class, losers, pays, votes_for
from soldwhole.outcomes import outcome
from soldwhole.signs import paid_to
from soldwhole.webs import persons_of
from walking import drawn as drawn_rows

NOUGHT, ONE, FOUR, HALF = (0, 1), (1, 1), (4, 1), (1, 2)
SHARE = ("shares", ONE)
WEB = (("a", 0, (("x", (SHARE,)), ("z", (SHARE,)))), ("b", 1, (("x", (SHARE,)), ("y", (("due", 0, (3, 1)),)))))
STANDS, OFFERED = {"a": (6, 1), "b": (2, 1)}, {"a": (2, 1), "b": (8, 1)}
CLASSES = (((("x", 1), ("z", 1)), (2, 3)), ((("x", 3), ("y", 1)), HALF))


class Pays(unittest.TestCase):
    def test_what_all_are_paid_by_the_outcomes(self):
        for _, web, one, other, _ in drawn(380, 60):
            offers = [one, other, {name: NOUGHT for name in one}, one]
            found = pays(web, offers)
            self.assertEqual(found, [paid_to(web, outcome(web, amounts)[1]) for amounts in offers])
            self.assertEqual(pays(web, tuple(offers)), found)
            for paid, amounts in zip(found, offers):
                self.assertEqual(tuple(paid), persons_of(web))
                self.assertEqual(sum(map(meant, paid.values())), sum(map(meant, amounts.values())))

    def test_edges(self):
        self.assertEqual([pays(WEB, []), pays(WEB, ()), pays((), [{}, {}])], [[], [], [{}, {}]])
        found = pays(WEB, [STANDS, STANDS])
        found[0].clear()
        self.assertEqual(found[1], {"x": (3, 1), "y": (2, 1), "z": (3, 1)})


class Gains(unittest.TestCase):
    def test_who_gains_and_who_loses(self):
        kinds = {-1: 0, 0: 0, 1: 0}
        for _, web, one, other, _ in drawn(381, 100):
            found, changes = gains(web, one, other), meant_gains(web, one, other)
            self.assertEqual(tuple(found), persons_of(web))
            self.assertTrue(all(is_fraction(gain) for gain in found.values()))
            self.assertEqual({person: meant(gain) for person, gain in found.items()}, changes)
            self.assertEqual(gainers(web, one, other), tuple(person for person in sorted(changes) if changes[person] > 0))
            self.assertEqual(losers(web, one, other), tuple(person for person in sorted(changes) if changes[person] < 0))
            self.assertEqual(losers(web, other, one), gainers(web, one, other))
            for change in changes.values():
                kinds[(change > 0) - (change < 0)] += 1
        self.assertTrue(all(many > 20 for many in kinds.values()), kinds)

    def test_no_losers_where_no_amount_is_less(self):
        for _, web, one, other in drawn_rows(382, 60):
            self.assertEqual(losers(web, one, other), ())
            self.assertEqual(gainers(web, other, one), ())

    def test_edges(self):
        self.assertEqual([gains(WEB, STANDS, STANDS), gainers(WEB, STANDS, STANDS), losers(WEB, STANDS, STANDS)],
                         [{"x": NOUGHT, "y": NOUGHT, "z": NOUGHT}, (), ()])
        self.assertEqual([gains((), {}, {}), gainers((), {}, {}), losers((), {}, {})], [{}, (), ()])


class Classes(unittest.TestCase):
    def test_votes(self):
        chance = source(383)
        kinds = {True: 0, False: 0}
        for _ in range(300):
            classes = some_classes(chance)
            persons = [chance.choice((*VOTERS, "who")) for _ in range(chance.randint(0, 6))]
            found = votes_for(classes, persons)
            self.assertEqual(found, tuple(sum(many for person, many in votes if person in persons)
                                          for votes, _ in classes))
            self.assertEqual(votes_for(classes, tuple(persons)), found)
            carried = is_carried(classes, persons)
            self.assertIs(carried, is_meant_carried(classes, persons))
            self.assertIs(is_carried(classes, tuple(persons)), carried)
            kinds[carried] += 1
        self.assertTrue(all(many > 50 for many in kinds.values()), kinds)

    def test_who_stands_twice_is_for_it_once(self):
        self.assertEqual(votes_for(CLASSES, ["x", "x", "y", "x"]), (1, 4))
        self.assertIs(is_carried((((("x", 1), ("y", 1)), ONE),), ("x", "x")), False)

    def test_edges(self):
        votes = (("x", 1), ("y", 2))
        for needed, persons, right in (
            (NOUGHT, (), True), (NOUGHT, ("zoe",), True), (ONE, ("x",), False), (ONE, ("y", "x"), True),
            ((2, 3), ("y",), True), ((67, 100), ("y",), False), ((1, 3), ("x",), True), ((34, 100), ("x",), False),
            ((1, 10 ** 199), (), False), (HALF, ("x", "zoe"), False),
        ):
            self.assertIs(is_carried(((votes, needed),), persons), right, (needed, persons))
        for needed in (NOUGHT, HALF, ONE):
            self.assertIs(is_carried((((), needed),), ()), True)
        self.assertEqual([is_carried((), ()), votes_for((), ("x",)), votes_for((((), ONE),), ["x"])], [True, (), (0,)])
        self.assertEqual([is_carried(CLASSES, persons) for persons in (["x", "z"], ["x", "z", "y"], ["z", "y"], ["x"])],
                         [True, True, False, False])

    def test_forms(self):
        chance = source(384)
        for _ in range(100):
            self.assertIs(is_class(some_class(chance)), True)
        votes = (("x", 1), ("y", 2))
        for right in ((votes, HALF), ((), NOUGHT), ((), ONE), ((("x", 10 ** 999),), (1, 10 ** 999))):
            self.assertIs(is_class(right), True)
        for thing in (
            *ODD_VALUES, [votes, HALF], (votes,), (votes, HALF, HALF), (HALF, votes), (list(votes), HALF),
            (votes[::-1], HALF), ((("x", 1), ("x", 2)), HALF), ((("x", 0),), HALF), ((("x", -1),), HALF),
            ((("x", True),), HALF), ((("x", ONE),), HALF), ((("X", 1),), HALF), ((("", 1),), HALF), (((1, 1),), HALF),
            ((["x", 1],), HALF), ((("x",),), HALF), ((("x", 1, 1),), HALF), (("x", 1), HALF), (votes, (3, 2)),
            (votes, (-1, 2)), (votes, (2, 4)), (votes, 1), (votes, True), (votes, [1, 2]), (votes, None), (votes, (True, 1)),
            (None, HALF), ({"x": 1}, HALF), ((None,), HALF), (votes, (1, True)),
        ):
            self.assertIs(is_class(thing), False, thing)

    def test_parts_exchanged(self):
        chance = source(385)
        kinds = {True: 0, False: 0}
        for _ in range(900):
            others = (ONE, HALF, ("a", 2), "zz", 7)
            thing = exchanged_deep(chance, some_class(chance), chance.choice((others, (*ODD_VALUES, *others))))
            found = is_class(thing)
            if found:
                self.assertIs(is_carried((thing,), list(dict(thing[0]))), True)
                names = [name for name, _ in thing[0]]
                self.assertEqual(names, sorted(set(names)))
            kinds[found] += 1
        self.assertTrue(all(many > 20 for many in kinds.values()), kinds)


class Alone(unittest.TestCase):
    def test_if_just_those_are_for_it_who_are_paid_no_less(self):
        kinds = {True: 0, False: 0}
        for _, web, one, other, classes in drawn(386, 150):
            right = is_meant_carried(classes, meant_willing(web, one, other, classes))
            self.assertIs(is_carried_alone(web, one, other, classes), right)
            kinds[right] += 1
        self.assertTrue(all(many > 10 for many in kinds.values()), kinds)

    def test_edges(self):
        self.assertEqual([is_carried_alone(WEB, STANDS, OFFERED, one) for one in (CLASSES, CLASSES[1:], CLASSES[:1], ())],
                         [False, True, False, True])
        self.assertIs(is_carried_alone(WEB, STANDS, STANDS, CLASSES), True)
        # Who has no holding is paid 0 by both, which is no less.
        self.assertIs(is_carried_alone(WEB, STANDS, OFFERED, (((("who", 1),), ONE),)), True)
        self.assertIs(is_carried_alone(WEB, STANDS, OFFERED, (((("who", 1), ("z", 1)), ONE),)), False)
        self.assertIs(is_carried_alone(WEB, STANDS, OFFERED, (((("who", 1), ("z", 1)), HALF),)), True)
        self.assertIs(is_carried_alone((), {}, {}, (((("who", 1),), ONE),)), True)


class Bounds(unittest.TestCase):
    def test_great_webs(self):
        web = great_web(6, firms_part=0.4)
        with within(self):
            found = pays(web, [great_amounts(seed) for seed in range(20)])
        self.assertEqual(len(found), 20)
        with within(self):
            gains(web, great_amounts(1), great_amounts(2))
        votes = tuple((f"{'abcdefghij'[place // 100]}{'abcdefghij'[place // 10 % 10]}{'abcdefghij'[place % 10]}", 1)
                      for place in range(1000))
        with within(self):
            self.assertIs(is_carried(((votes, ONE),) * 5, [person for person, _ in votes]), True)


if __name__ == "__main__":
    unittest.main()
