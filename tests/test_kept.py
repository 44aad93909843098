"""[41] kept webs."""

import unittest

from bounds import great_amounts, great_web, within
from making import ODD_VALUES, above_zero, meant, nested, some_claim, some_fraction, source
from soldwhole.desk import Desk
from soldwhole.errors import Circle, Nothing, NotFounded, SoldError, Wrong
from soldwhole.forms import are_amounts, is_amount, is_firm, is_holding, is_integer, is_name, is_web
from soldwhole.kept import Kept
from soldwhole.outcomes import outcome
from soldwhole.signs import paid_to
from soldwhole.webs import circle_of, is_clear
from unclear import unfounded
from webmaking import NAMES, some_clear_web, some_rings, some_web

NOUGHT, ONE, FOUR, HALF = (0, 1), (1, 1), (4, 1), (1, 2)
SHARE, DUE = ("shares", ONE), ("due", 0, FOUR)
HOLDINGS = (("x", (SHARE,)), ("y", (DUE, SHARE)))
WEB = (("a", 1, HOLDINGS),)
RING = tuple((name, 1, (("x", (SHARE,)), (other, (DUE,)))) for name, other in (("a", "b"), ("b", "a")))
CHANGES = ("put_firm", "take_firm", "put_amount", "put_holding", "take_holding")


def some_firm_for(chance, name):
    """A FIRM with this name, often one with a founder, that may hold and be held by any of the others."""
    ranks = chance.randint(0, 2)
    others = [other for other in NAMES[:4] if other != name] + ["ann", "bob", "cat"]
    rows = [(chance.choice(others), tuple(some_claim(chance, ranks, 1) for _ in range(chance.randint(1, 2))))
            for _ in range(chance.randint(0, 2))]
    return (name, ranks, (("ann", (("shares", above_zero(chance)),)), *rows)) if chance.random() < 0.9 else (name, 0, ())


def some_change(chance, web):
    """The name of a method and its arguments, as described, that may be done or not."""
    name = chance.choice(NAMES[:4])
    kind = chance.choice(("put_firm", "take_firm", "put_amount", "put_amount", "put_holding", "take_holding"))
    if kind == "put_firm":
        return kind, (some_firm_for(chance, name),)
    if kind == "take_firm":
        return kind, (name,)
    if kind == "put_amount":
        return kind, (name, some_fraction(chance, 20))
    if kind == "put_holding":
        ranks = chance.choice((0, 1, 2, 6))
        holder = chance.choice((*NAMES[:4], "ann", "bob"))
        return kind, (name, (holder, (some_claim(chance, ranks, 1),)))
    return kind, (name, chance.choice((-1, 0, 1, 2, 9)))


def meant_after(web, amounts, kind, arguments):
    """The WEB and AMOUNTS behind a change, by the words of the promise, or None if it is not done."""
    firms = {firm[0]: firm for firm in web}
    amounts = dict(amounts)
    if kind == "put_firm":
        firms[arguments[0][0]] = arguments[0]
        amounts.setdefault(arguments[0][0], NOUGHT)
    elif arguments[0] not in firms:
        return None
    elif kind == "take_firm":
        del firms[arguments[0]], amounts[arguments[0]]
    elif kind == "put_amount":
        amounts[arguments[0]] = arguments[1]
    else:
        name, ranks, holdings = firms[arguments[0]]
        rows = list(holdings)
        if kind == "put_holding":
            rows.append(arguments[1])
        elif 0 <= arguments[1] < len(rows):
            del rows[arguments[1]]
        else:
            return None
        firms[name] = (name, ranks, tuple(rows))
        if not is_firm(firms[name]):
            return None
    return tuple(firms[name] for name in sorted(firms)), amounts


def new_one(web, amounts):
    """A new Kept of the same WEB, with the same AMOUNTS put."""
    kept = Kept(web)
    for name, amount in amounts.items():
        kept.put_amount(name, amount)
    return kept


def told_by(kept):
    """All that a Kept tells, but for what can be taken back; of errors their kinds and fields."""
    found = [kept.web(), list(kept.amounts().items())]
    for call in (kept.outcome, kept.paid):
        try:
            found.append(repr(call()))
        except SoldError as error:
            found.append((error.__class__.__name__, error.__dict__))
    return found


class Changes(unittest.TestCase):
    def test_any_changes_and_all_of_them_taken_back(self):
        chance = source(410)
        kinds = {(kind, done): 0 for kind in CHANGES for done in (True, False)}
        for _ in range(40):
            web = chance.choice(((), some_web(chance, 3, 2), some_clear_web(chance, 3, 2)))
            amounts = {firm[0]: NOUGHT for firm in web}
            kept, states = Kept(web), [(web, amounts)]
            for _ in range(12):
                kind, arguments = some_change(chance, web)
                after = meant_after(web, amounts, kind, arguments)
                self.assertIs(getattr(kept, kind)(*arguments), after is not None)
                kinds[kind, after is not None] += 1
                if after is not None:
                    web, amounts = after
                    states.append(after)
                self.assertEqual([kept.web(), kept.amounts()], [web, amounts])
                self.assertTrue(is_web(kept.web()) and are_amounts(web, kept.amounts()))
                self.assertEqual(list(kept.amounts()), sorted(amounts))
                self.check_told(kept)
            while states:
                self.check_moved(kept, states)
                web, amounts = states.pop()
                self.assertEqual([kept.web(), kept.amounts()], [web, amounts])
                if states:
                    self.assertIsNone(kept.undo())
            with self.assertRaises(Nothing):
                kept.undo()
            self.assertEqual([kept.web(), kept.amounts()], [web, amounts])
        self.assertTrue(all(many > 3 for key, many in kinds.items() if key != ("put_firm", False)), kinds)

    def check_told(self, kept):
        """What a new one tells, and what the functions of stage 8 do."""
        web, amounts = kept.web(), kept.amounts()
        other = new_one(web, amounts)
        self.assertEqual(told_by(kept), told_by(other))
        self.assertIs(kept == other, True)
        if is_clear(web):
            self.assertEqual(kept.outcome(), outcome(web, amounts))
            self.assertEqual(kept.paid(), paid_to(web, outcome(web, amounts)[1]))

    def check_moved(self, kept, states):
        if len(states) == 1:
            self.assertEqual(kept.moved(), {})
            return
        for web, _ in (states[-1], states[-2]):
            if not is_clear(web):
                with self.assertRaises((NotFounded, Circle)) as caught:
                    kept.moved()
                self.assertEqual(told_by(Kept(web))[3],
                                 (caught.exception.__class__.__name__, caught.exception.__dict__))
                return
        now, before = (paid_to(web, outcome(web, amounts)[1]) for web, amounts in (states[-1], states[-2]))
        expected = {person: (before.get(person, NOUGHT), now.get(person, NOUGHT)) for person in sorted({*now, *before})
                    if before.get(person, NOUGHT) != now.get(person, NOUGHT)}
        self.assertEqual(kept.moved(), expected)
        self.assertEqual(list(kept.moved()), list(expected))

    def test_each_change(self):
        kept = Kept(WEB)
        self.assertEqual([kept.web(), kept.amounts()], [WEB, {"a": NOUGHT}])
        self.assertIs(kept.put_amount("a", (6, 1)), True)
        self.assertIs(kept.put_firm(("a", 2, HOLDINGS[:1])), True)
        self.assertEqual([kept.web(), kept.amounts()], [(("a", 2, HOLDINGS[:1]),), {"a": (6, 1)}])
        self.assertIs(kept.put_firm(("b", 0, ())), True)
        self.assertIs(kept.put_firm(("aa", 0, ())), True)
        self.assertEqual([[firm[0] for firm in kept.web()], kept.amounts()],
                         [["a", "aa", "b"], {"a": (6, 1), "aa": NOUGHT, "b": NOUGHT}])
        self.assertIs(kept.put_holding("b", ("x", (SHARE,))), True)
        self.assertIs(kept.put_holding("b", ("a", (SHARE, ("none",)))), True)
        self.assertEqual(kept.web()[2], ("b", 0, (("x", (SHARE,)), ("a", (SHARE, ("none",))))))
        self.assertIs(kept.take_holding("b", 0), True)
        self.assertEqual(kept.web()[2], ("b", 0, (("a", (SHARE, ("none",))),)))
        self.assertIs(kept.take_firm("a"), True)
        self.assertEqual(kept.amounts(), {"aa": NOUGHT, "b": NOUGHT})
        self.assertIs(kept.put_firm(("a", 0, ())), True)
        self.assertEqual(kept.amounts(), {"a": NOUGHT, "aa": NOUGHT, "b": NOUGHT})

    def test_changes_that_cannot_be_done(self):
        kept = Kept(WEB)
        before = told_by(kept)
        for kind, arguments in (
            ("take_firm", ("b",)), ("take_firm", ("x",)), ("put_amount", ("b", ONE)), ("put_amount", ("x", NOUGHT)),
            ("put_holding", ("b", ("x", (SHARE,)))), ("put_holding", ("a", ("a", (SHARE,)))),
            ("put_holding", ("a", ("x", (("due", 1, ONE),)))), ("put_holding", ("a", ("x", (SHARE, ("due", 5, ONE))))),
            ("put_holding", ("a", ("x", (("sum", (SHARE, ("capped", ("due", 2, ONE), ONE))),)))),
            ("take_holding", ("b", 0)), ("take_holding", ("a", 2)), ("take_holding", ("a", -1)),
            ("take_holding", ("a", 10 ** 999)), ("take_holding", ("x", 0)), ("take_holding", ("a", -10 ** 999)),
        ):
            self.assertIs(getattr(kept, kind)(*arguments), False)
            self.assertEqual(told_by(kept), before)
            self.assertEqual(kept.moved(), {})
            with self.assertRaises(Nothing):
                kept.undo()
        self.assertIs(kept.put_holding("a", ("x", (("due", 0, ONE),))), True)

    def test_a_change_that_changes_nothing_is_done(self):
        kept = Kept(WEB)
        self.assertIs(kept.put_firm(WEB[0]), True)
        self.assertIs(kept.put_amount("a", NOUGHT), True)
        self.assertEqual([kept.moved(), kept == Kept(WEB), kept.undo(), kept.undo()], [{}, True, None, None])
        with self.assertRaises(Nothing):
            kept.undo()

    def test_a_holder_becomes_a_firm_and_a_person_again(self):
        kept = new_one((("a", 0, (("b", (SHARE,)), ("x", (SHARE,)))),), {"a": FOUR})
        self.assertEqual(kept.paid(), {"b": (2, 1), "x": (2, 1)})
        kept.put_firm(("b", 0, (("x", (SHARE,)),)))
        self.assertEqual([kept.paid(), kept.moved()], [{"x": FOUR}, {"b": ((2, 1), NOUGHT), "x": ((2, 1), FOUR)}])
        kept.take_firm("b")
        self.assertEqual(kept.moved(), {"b": (NOUGHT, (2, 1)), "x": (FOUR, (2, 1))})


class Undo(unittest.TestCase):
    def test_one_by_one_to_the_beginning_and_no_further(self):
        kept = Kept(WEB)
        for _ in range(2):
            with self.assertRaises(Nothing):
                kept.undo()
            self.assertEqual([kept.web(), kept.amounts(), kept.moved()], [WEB, {"a": NOUGHT}, {}])
        kept.put_amount("a", ONE)
        kept.put_amount("a", FOUR)
        kept.undo()
        self.assertEqual(kept.amounts(), {"a": ONE})
        kept.put_amount("a", (7, 1))
        kept.undo()
        kept.undo()
        self.assertEqual(kept.amounts(), {"a": NOUGHT})
        with self.assertRaises(Nothing):
            kept.undo()

    def test_a_firm_that_went_comes_back_with_its_amount(self):
        kept = new_one(WEB, {"a": (6, 1)})
        kept.take_firm("a")
        self.assertEqual([kept.web(), kept.amounts(), kept.paid()], [(), {}, {}])
        self.assertEqual(kept.moved(), {"x": ((2, 1), NOUGHT), "y": (FOUR, NOUGHT)})
        kept.undo()
        self.assertEqual([kept.web(), kept.amounts()], [WEB, {"a": (6, 1)}])
        # What is moved now is by the change ahead of it.
        self.assertEqual(kept.moved(), {"x": (NOUGHT, (2, 1)), "y": (NOUGHT, FOUR)})


class Unclear(unittest.TestCase):
    def test_empty_not_founded_and_with_a_circle(self):
        empty = Kept(())
        self.assertEqual([empty.web(), empty.amounts(), empty.outcome(), empty.paid(), empty.moved()],
                         [(), {}, ({}, {}), {}, {}])
        lost = Kept((("a", 0, ()), *RING[1:]))
        for call in (lost.outcome, lost.paid):
            with self.assertRaises(NotFounded) as caught:
                call()
            self.assertEqual(caught.exception.name, "a")
        ring = Kept(RING)
        for call in (ring.outcome, ring.paid):
            with self.assertRaises(Circle) as caught:
                call()
            self.assertEqual(caught.exception.names, circle_of(RING))
        self.assertEqual([lost.moved(), ring.moved()], [{}, {}])

    def test_moved_raises_for_now_and_then_for_before(self):
        kept = Kept(WEB)
        kept.put_firm(("b", 0, ()))
        with self.assertRaises(NotFounded) as caught:
            kept.moved()
        self.assertEqual(caught.exception.name, "b")
        kept.put_firm(("b", 0, (("x", (SHARE,)),)))
        with self.assertRaises(NotFounded) as caught:
            kept.moved()
        self.assertEqual(caught.exception.name, "b")
        kept.put_amount("b", ONE)
        self.assertEqual(kept.moved(), {"x": (NOUGHT, ONE)})
        # Now there is a circle; ahead of it a firm was not founded.
        kept = Kept((("a", 0, ()), RING[1]))
        kept.put_firm(RING[0])
        with self.assertRaises(Circle):
            kept.moved()
        kept.put_firm(("a", 0, ()))
        with self.assertRaises(NotFounded):
            kept.moved()
        kept.undo()
        with self.assertRaises(Circle):
            kept.moved()
        kept.undo()
        self.assertEqual(kept.moved(), {})

    def test_drawn_ones(self):
        chance = source(411)
        for _ in range(30):
            web = some_rings(chance)
            web = web if chance.random() < 0.5 else tuple(map(unfounded, web))
            kept = Kept(web)
            self.assertEqual(kept.web(), web)
            self.assertIs(kept.put_amount(web[0][0], ONE), True)
            if not is_clear(web):
                with self.assertRaises((NotFounded, Circle)):
                    kept.outcome()


class Wrongs(unittest.TestCase):
    def check_wrong(self, call, arguments, place):
        with self.assertRaises(Wrong) as caught:
            call(*arguments)
        self.assertEqual(caught.exception.place, place, arguments)

    def test_any_values(self):
        things = (*ODD_VALUES, WEB, WEB[0], HOLDINGS[0], ("a", 7, ()), ("x", ()), ("x", [SHARE]), Kept(WEB), Desk(),
                  ("x", (("due", 6, ONE),)), nested(20), ("x", (nested(20),)), (("b", 0, ()), ("a", 0, ())), "A", "abcdefghijklm")
        kept = Kept(WEB)
        kinds = {}
        for thing in things:
            if not is_web(thing):
                self.check_wrong(Kept, (thing,), 0)
            else:
                self.assertEqual(Kept(thing).web(), thing)
            if not is_firm(thing):
                self.check_wrong(kept.put_firm, (thing,), 0)
            for kind, is_right in (("put_amount", is_amount), ("take_holding", is_integer),
                                   ("put_holding", lambda one: is_holding(6, one))):
                for name in ("a", "b"):
                    if is_right(thing):
                        self.assertIn(getattr(kept.twin(), kind)(name, thing), (True, False))
                        kinds[kind] = kinds.get(kind, 0) + 1
                    else:
                        self.check_wrong(getattr(kept, kind), (name, thing), 1)
                if not is_name(thing):
                    for other in (NOUGHT, 0, HOLDINGS[0], None, []):
                        self.check_wrong(getattr(kept, kind), (thing, other), 0)
            if not is_name(thing):
                self.check_wrong(kept.take_firm, (thing,), 0)
        self.assertEqual(len(kinds), 3)
        self.assertEqual([kept.web(), kept.amounts(), kept.moved()], [WEB, {"a": NOUGHT}, {}])

    def test_ahead_of_whether_it_can_be_done(self):
        kept = Kept(())
        self.check_wrong(kept.put_amount, ("zoe", (-1, 1)), 1)
        self.check_wrong(kept.put_amount, ("zoe", (True, 1)), 1)
        self.check_wrong(kept.put_amount, ("Zoe", (-1, 1)), 0)
        self.check_wrong(kept.put_holding, ("zoe", ("x", ())), 1)
        self.check_wrong(kept.put_holding, ("zoe", ("x", (("due", 6, ONE),))), 1)
        self.check_wrong(kept.take_holding, ("zoe", True), 1)
        self.check_wrong(kept.take_holding, (True, True), 0)
        self.assertIs(kept.put_holding("zoe", ("x", (("due", 5, ONE),))), False)


class Objects(unittest.TestCase):
    def test_equal_ones(self):
        one, other = Kept(WEB), Kept(WEB)
        self.assertIs(one == other, True)
        self.assertIs(one != other, False)
        one.put_amount("a", ONE)
        self.assertIs(one == other, False)
        other.put_firm(WEB[0])
        other.put_amount("a", ONE)
        self.assertIs(one == other, True)
        self.assertIs(Kept(()) == Kept(WEB), False)
        self.assertIs(Kept(WEB) == Kept((("a", 1, HOLDINGS[::-1]),)), False)
        for thing in (*ODD_VALUES, WEB, (WEB, {"a": ONE}), Desk(), object()):
            self.assertIs(one == thing, False)
            self.assertIs(thing == one, False)
            self.assertIs(one != thing, True)

    def test_twins_go_on_by_themselves(self):
        one = new_one(WEB, {"a": (6, 1)})
        one.put_holding("a", ("z", (SHARE,)))
        twin = one.twin()
        self.assertIsInstance(twin, Kept)
        self.assertEqual([twin == one, twin.moved(), told_by(twin)], [True, one.moved(), told_by(one)])
        one.take_holding("a", 2)
        twin.undo()
        self.assertEqual([twin.web(), len(one.web()[0][2]), twin == one], [WEB, 2, True])
        twin.undo()
        self.assertEqual([twin.amounts(), one.amounts()], [{"a": NOUGHT}, {"a": (6, 1)}])
        with self.assertRaises(Nothing):
            twin.undo()
        for _ in range(3):
            one.undo()
        with self.assertRaises(Nothing):
            one.undo()
        self.assertIs(one == twin, True)
        twin.put_amount("a", ONE)
        self.assertEqual(one.amounts(), {"a": NOUGHT})

    def test_the_callers_changes_change_nothing(self):
        kept = new_one(WEB, {"a": (6, 1)})
        for found in (kept.amounts(), kept.paid(), kept.moved(), *kept.outcome()):
            found.clear()
            found["b"] = ONE
        self.assertEqual(kept, new_one(WEB, {"a": (6, 1)}))
        self.assertEqual(kept.paid(), {"x": (2, 1), "y": FOUR})
        self.assertIsNot(kept.amounts(), kept.amounts())

    def test_each_method_stands_in_the_class_itself(self):
        for name in (*CHANGES, "web", "amounts", "outcome", "paid", "undo", "moved", "twin", "__eq__", "__init__"):
            self.assertIn(name, vars(Kept))


class Bounds(unittest.TestCase):
    def test_a_great_web_firm_by_firm(self):
        web, amounts = great_web(10), great_amounts(10)
        kept = Kept(())
        with within(self):
            for firm in web:
                kept.put_firm(firm)
                kept.put_amount(firm[0], amounts[firm[0]])
            self.assertEqual(sum(map(meant, kept.paid().values())), sum(map(meant, amounts.values())))
            kept.moved()
        with within(self):
            for _ in range(12):
                kept.undo()
        self.assertIs(kept == Kept(()), True)


if __name__ == "__main__":
    unittest.main()
