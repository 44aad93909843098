"""[32] rows of exchanges, and [8]: whichever gainful exchange comes next, they end at CHOICES that are MOST."""

import unittest

from bounds import great_amounts, great_web, within
from making import source
from soldwhole.chosen import exchanged, first_choices
from soldwhole.errors import Circle, NotFounded
from soldwhole.outcomes import is_most, most_choices, outcome
from soldwhole.signs import sign_of, told
from soldwhole.switches import ended, gainful, led_on
from test_signs import drawn, rivals_of
from unclear import check_unclear

NOUGHT, ONE, FOUR = (0, 1), (1, 1), (4, 1)
SHARE, DUE = ("shares", ONE), ("due", 0, FOUR)
ACME = (("acme", 1, (("ann", (SHARE,)), ("bea", (DUE, SHARE)), ("bob", (DUE, SHARE)))),)
STAY, MUCH = {"acme": (0, 0, 0)}, {"acme": (13, 1)}
MANY = range(1000)


def meant_gainful(web, amounts, choices):
    """All RIVALS whose sign is 1, one by one."""
    return sorted((firm, index, option) for _, firm, index, option in rivals_of(web, choices)
                  if option != choices[firm][index] and sign_of(web, amounts, choices, firm, index, option) == 1)


def meant_led(web, amounts, choices, picks):
    found = [choices]
    for pick in picks:
        ways = meant_gainful(web, amounts, found[-1])
        if not ways:
            break
        found.append(exchanged(found[-1], *ways[pick % len(ways)]))
    return found


class Gainful(unittest.TestCase):
    def test_all_rivals_whose_sign_is_1(self):
        kinds = {True: 0, False: 0}
        for _, web, amounts, choices in drawn(320, 120):
            found = gainful(web, amounts, choices)
            self.assertEqual(found, meant_gainful(web, amounts, choices))
            self.assertIs(found == [], is_most(web, amounts, choices))
            kinds[found == []] += 1
        self.assertTrue(all(many > 20 for many in kinds.values()), kinds)

    def test_edges(self):
        self.assertEqual(gainful(ACME, MUCH, STAY), [("acme", 1, 1), ("acme", 2, 1)])
        self.assertEqual(gainful(ACME, {"acme": (12, 1)}, STAY), [])
        self.assertEqual(gainful(ACME, {"acme": (11, 1)}, {"acme": (0, 1, 0)}), [("acme", 1, 0)])
        self.assertEqual([gainful((), {}, {}), led_on((), {}, {}, (1, 2)), ended((), {}, {})], [[], [{}], {}])
        # An option that claims less, or as much, gains nothing; one that claims more than others is not alone.
        web = (("acme", 1, (("ann", (SHARE,)), ("bea", (("none",), DUE, ("due", 0, ONE), ("none",))))),)
        self.assertEqual(gainful(web, MUCH, {"acme": (0, 0)}), [("acme", 1, 1), ("acme", 1, 2)])
        self.assertEqual(gainful(web, MUCH, {"acme": (0, 3)}), [("acme", 1, 1), ("acme", 1, 2)])
        self.assertEqual(gainful(web, MUCH, {"acme": (0, 2)}), [("acme", 1, 1)])

    def test_of_firms_nothing_is_exchanged(self):
        web = (("asp", 1, (("ann", (SHARE,)), ("bay", (("none",), SHARE, DUE)), ("bob", (("none",), SHARE)))),
               ("bay", 0, (("ann", (SHARE,)),)))
        choices = {"bay": (0,), "asp": (0, None, 0)}
        self.assertEqual(gainful(web, {"asp": (9, 1), "bay": ONE}, choices), [("asp", 2, 1)])

    def test_firms_ascend_whatever_order_the_keys_have(self):
        web = (("asp", 0, (("ann", (SHARE,)), ("bob", (("none",), SHARE)))),
               ("bay", 0, (("bob", (("none",), SHARE)), ("ann", (SHARE,)))))
        amounts = {"bay": ONE, "asp": ONE}
        self.assertEqual(gainful(web, amounts, {"bay": (0, 0), "asp": (0, 0)}), [("asp", 1, 1), ("bay", 0, 1)])


class Led(unittest.TestCase):
    def test_each_exchange_is_the_one_picked(self):
        longer = 0
        for chance, web, amounts, choices in drawn(321, 150):
            picks = [chance.choice((0, 1, 2, 7, 10 ** 30)) for _ in range(chance.randint(0, 4))]
            found = led_on(web, amounts, choices, picks)
            self.assertEqual(found, meant_led(web, amounts, choices, picks))
            self.assertEqual(led_on(web, amounts, choices, tuple(picks)), found)
            longer += len(found) > 2
        self.assertGreater(longer, 10)

    def test_whichever_comes_next_they_end_at_most_choices(self):
        for chance, web, amounts, choices in drawn(322, 80):
            payments = outcome(web, amounts)[1]
            for _ in range(4):
                found = led_on(web, amounts, choices, [chance.randrange(99) for _ in MANY])
                self.assertLess(len(found), len(MANY))
                self.assertIs(is_most(web, amounts, found[-1]), True)
                self.assertEqual(told(web, amounts, found[-1])[1], payments)
                shown = [repr(one) for one in found]
                self.assertEqual(len(set(shown)), len(shown))

    def test_levels_fall_and_none_rises(self):
        for _, web, amounts, choices in drawn(323, 40):
            levels = [told(web, amounts, one)[0] for one in led_on(web, amounts, choices, MANY)]
            for low, high in zip(levels[1:], levels):
                self.assertNotEqual(low, high)
                self.assertTrue(all(low[name][0] * high[name][1] <= high[name][0] * low[name][1] for name in low))

    def test_edges(self):
        self.assertEqual(led_on(ACME, MUCH, STAY, ()), [STAY])
        self.assertEqual(led_on(ACME, MUCH, STAY, [0]), [STAY, {"acme": (0, 1, 0)}])
        self.assertEqual(led_on(ACME, MUCH, STAY, [1]), [STAY, {"acme": (0, 0, 1)}])
        self.assertEqual(led_on(ACME, MUCH, STAY, [2, 5]), [STAY, {"acme": (0, 1, 0)}, {"acme": (0, 1, 1)}])
        self.assertEqual(led_on(ACME, MUCH, STAY, [1] * 9), [STAY, {"acme": (0, 0, 1)}, {"acme": (0, 1, 1)}])
        self.assertEqual(led_on(ACME, {"acme": NOUGHT}, STAY, [1, 2, 3]), [STAY])


class Ended(unittest.TestCase):
    def test_the_first_gainful_one_again_and_again(self):
        unlike = 0
        for _, web, amounts, choices in drawn(324, 80):
            found = ended(web, amounts, choices)
            self.assertEqual(found, led_on(web, amounts, choices, [0] * 1000)[-1])
            self.assertIs(is_most(web, amounts, found), True)
            self.assertEqual(gainful(web, amounts, found), [])
            self.assertEqual(ended(web, amounts, found), found)
            unlike += found != most_choices(web, amounts)
        self.assertGreater(unlike, 5)

    def test_edges(self):
        self.assertEqual([ended(ACME, MUCH, STAY), ended(ACME, {"acme": NOUGHT}, STAY)], [{"acme": (0, 1, 1)}, STAY])
        # At 12 both options claim alike: the chosen one stays.
        for choices in (STAY, {"acme": (0, 1, 1)}, {"acme": (0, 0, 1)}):
            self.assertEqual(ended(ACME, {"acme": (12, 1)}, choices), choices)
        self.assertEqual(ended(ACME, {"acme": (10 ** 199, 7)}, STAY), {"acme": (0, 1, 1)})

    def test_another_gainful_one_would_end_at_others(self):
        """At 8 the due and the share claim alike in the end: so bea keeps what comes first, and takes it for herself."""
        bea = ("bea", (("none",), DUE, SHARE))
        for web, none, found in (
            ((("acme", 1, (("ann", (SHARE,)), bea)),), {"acme": (0, 0)}, {"acme": (0, 1)}),
            ((("acme", 1, (("ann", (SHARE,)), ("bea", (("none",), SHARE, DUE)))),), {"acme": (0, 0)}, {"acme": (0, 1)}),
        ):
            self.assertEqual(ended(web, {"acme": (8, 1)}, none), found)
            self.assertEqual(led_on(web, {"acme": (8, 1)}, none, [1])[-1], {"acme": (0, 2)})


class Unclear(unittest.TestCase):
    def test_all_three(self):
        check_unclear(self, gainful)
        check_unclear(self, ended)
        check_unclear(self, lambda web, amounts, choices: led_on(web, amounts, choices, (0, 1)))
        check_unclear(self, lambda web, amounts, choices: led_on(web, amounts, choices, ()))

    def test_the_least_name_ahead_of_the_circle(self):
        five = ("due", 0, (5, 1))
        ring = tuple((name, 1, (("cat", (SHARE,)), (other, (five,)))) for name, other in (("asp", "bay"), ("bay", "asp")))
        lost = (*ring, ("cow", 0, ()), ("doe", 0, ()))
        for web, kind, field in ((ring, Circle, "names"), (lost, NotFounded, "name")):
            amounts = {firm[0]: ONE for firm in web}
            choices = first_choices(web)
            for call in (gainful, ended, lambda *told_of: led_on(*told_of, ())):
                with self.assertRaises(kind) as caught:
                    call(web, amounts, choices)
                self.assertIn(getattr(caught.exception, field), ("cow", ("asp", "bay"), ("bay", "asp")))


class New(unittest.TestCase):
    def test_what_is_told_is_new(self):
        choices = {"acme": (0, 0, 0)}
        found = led_on(ACME, MUCH, choices, [0, 0, 0])
        self.assertEqual(len({id(one) for one in [choices, *found]}), 4)
        found[0].clear()
        end = ended(ACME, {"acme": ONE}, choices)
        self.assertIsNot(end, choices)
        end.clear()
        self.assertEqual(choices, STAY)


class Bounds(unittest.TestCase):
    def test_great_webs(self):
        for seed, firms_part in ((0, 0.0), (1, 0.4), (2, 0.7)):
            web, amounts = great_web(seed, firms_part=firms_part), great_amounts(seed, 5000)
            choices = first_choices(web)
            with within(self):
                found = led_on(web, amounts, choices, MANY)
            with within(self):
                end = ended(web, amounts, choices)
            self.assertGreater(len(found), 5)
            for one in (found[-1], end):
                self.assertIs(is_most(web, amounts, one), True)


if __name__ == "__main__":
    unittest.main()
