"""[34] from when on, along a straight row of amounts, persons are paid so much."""

import unittest
from fractions import Fraction

from bounds import great_amounts, great_web, within
from making import meant, told
from soldwhole.amountsfor import least_for_all, least_part
from soldwhole.walks import pay_line, walk
from soldwhole.webs import persons_of
from walking import TINY, drawn, meant_pays

NOUGHT, ONE, FOUR, HALF = (0, 1), (1, 1), (4, 1), (1, 2)
SHARE, DUE = ("shares", ONE), ("due", 0, FOUR)
WEB = (("a", 1, (("x", (SHARE,)), ("y", (DUE, SHARE)))),)
FROM, TO = {"a": NOUGHT}, {"a": (16, 1)}


def pays_looked_for(web, one, other, person):
    """Pays at bends, between them, just above and just below, and such as are never come to."""
    line = [meant(pay) for _, pay in pay_line(web, walk(web, one, other), person)]
    between = [(low + high) / 2 for low, high in zip(line, line[1:])]
    beside = [line[0] - TINY, line[-1] + TINY, line[-1] + 5, Fraction(0)]
    return sorted({pay for pay in line + between + beside if pay >= 0})


class LeastPart(unittest.TestCase):
    def test_just_when_so_much_is_paid(self):
        kinds = {"none": 0, "at once": 0, "later": 0}
        for _, web, one, other in drawn(340, 40):
            for person in (*persons_of(web), "zoe"):
                for pay in pays_looked_for(web, one, other, person):
                    t = least_part(web, one, other, person, told(pay))
                    if t is None:
                        self.assertLess(meant_pays(web, one, other, Fraction(1)).get(person, 0), pay)
                        kinds["none"] += 1
                        continue
                    self.assertGreaterEqual(meant_pays(web, one, other, meant(t)).get(person, 0), pay)
                    if t == NOUGHT:
                        kinds["at once"] += 1
                        continue
                    self.assertEqual(meant_pays(web, one, other, meant(t))[person], pay)
                    self.assertLess(meant_pays(web, one, other, meant(t) - min(TINY, meant(t)))[person], pay)
                    kinds["later"] += 1
        self.assertTrue(all(many > 100 for many in kinds.values()), kinds)

    def test_edges(self):
        for person, pay, t in (
            ("y", NOUGHT, NOUGHT), ("y", ONE, (1, 16)), ("y", FOUR, (1, 4)), ("y", (401, 100), (401, 800)),
            ("y", (5, 1), (5, 8)), ("y", (8, 1), ONE), ("y", (801, 100), None), ("y", (10 ** 199, 1), None),
            ("x", NOUGHT, NOUGHT), ("x", (1, 10 ** 9), (4 * 10 ** 9 + 1, 16 * 10 ** 9)), ("x", FOUR, HALF),
            ("zoe", NOUGHT, NOUGHT), ("zoe", (1, 10 ** 199), None),
        ):
            self.assertEqual(least_part(WEB, FROM, TO, person, pay), t, (person, pay))
        self.assertEqual([least_part(WEB, TO, TO, "y", pay) for pay in (ONE, (8, 1), (9, 1))], [NOUGHT, NOUGHT, None])
        self.assertEqual([least_part((), {}, {}, "y", pay) for pay in (NOUGHT, ONE)], [NOUGHT, None])

    def test_on_a_flat_stretch_the_first(self):
        """y has just 4 from 1/4 to 1/2."""
        self.assertEqual(least_part(WEB, FROM, TO, "y", FOUR), (1, 4))
        self.assertEqual(least_part(WEB, {"a": FOUR}, TO, "y", FOUR), NOUGHT)
        self.assertEqual(least_part(WEB, {"a": FOUR}, {"a": (8, 1)}, "y", (401, 100)), None)


class LeastForAll(unittest.TestCase):
    def test_the_last_of_all(self):
        kinds = {True: 0, False: 0}
        for chance, web, one, other in drawn(341, 40):
            for _ in range(5):
                persons = chance.sample((*persons_of(web), "zoe"), chance.randint(1, len(persons_of(web)) + 1))
                pays = {person: told(chance.choice(pays_looked_for(web, one, other, person))) for person in persons}
                parts = [least_part(web, one, other, person, pay) for person, pay in pays.items()]
                found = least_for_all(web, one, other, pays)
                self.assertEqual(found, None if None in parts else max(parts, key=meant))
                kinds[found is None] += 1
        self.assertTrue(all(many > 20 for many in kinds.values()), kinds)

    def test_edges(self):
        self.assertEqual(least_for_all(WEB, FROM, TO, {}), NOUGHT)
        self.assertEqual(least_for_all((), {}, {}, {}), NOUGHT)
        self.assertEqual(least_for_all(WEB, FROM, TO, {"x": NOUGHT, "y": NOUGHT, "zoe": NOUGHT}), NOUGHT)
        self.assertEqual(least_for_all(WEB, FROM, TO, {"y": FOUR, "x": ONE}), (5, 16))
        self.assertEqual(least_for_all(WEB, FROM, TO, {"y": (8, 1), "x": (8, 1)}), ONE)
        self.assertIsNone(least_for_all(WEB, FROM, TO, {"y": ONE, "x": (9, 1)}))
        self.assertIsNone(least_for_all(WEB, FROM, TO, {"y": ONE, "zoe": ONE}))

    def test_what_is_passed_stays(self):
        pays = {"y": FOUR, "x": ONE}
        least_for_all(WEB, FROM, TO, pays)
        self.assertEqual([list(pays.items()), FROM, TO], [[("y", FOUR), ("x", ONE)], {"a": NOUGHT}, {"a": (16, 1)}])


class Bounds(unittest.TestCase):
    def test_great_webs(self):
        web, one = great_web(3, firms_part=0.5), great_amounts(3, 20)
        other = {name: told(meant(much) + 3000) for name, much in one.items()}
        last = meant_pays(web, one, other, Fraction(1))
        pays = {person: told(pay * Fraction(2, 3)) for person, pay in last.items()}
        with within(self):
            t = least_for_all(web, one, other, pays)
        reached = meant_pays(web, one, other, meant(t))
        self.assertTrue(all(reached[person] >= meant(pay) for person, pay in pays.items()))
        self.assertIn(0, [reached[person] - meant(pay) for person, pay in pays.items()])
        with within(self):
            self.assertEqual(max(meant(least_part(web, one, other, person, pay)) for person, pay in pays.items()),
                             meant(t))


if __name__ == "__main__":
    unittest.main()
