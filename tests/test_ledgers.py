"""[19] ledgers."""

import unittest
from fractions import Fraction

from making import above_zero, meant, some_claim, source, told
from soldwhole.claims import ranks_needed, scaled_claim
from soldwhole.deeds import are_entries
from soldwhole.errors import NoDeed
from soldwhole.forms import is_web
from soldwhole.ledgers import counts_of, days_of, first_wrong, order_of, settled, waiting, web_of

SHARE = ("shares", (1, 1))
FIRM, COMMON = ("firm", "a", 1), ("sort", "a", "common", (SHARE,))
PREF = ("sort", "a", "pref", (("due", 0, (2, 1)), SHARE))
START = ((0, FIRM), (0, COMMON), (0, ("give", "a", "common", "x", (6, 1))))
X, Y = ("a", "common", "x"), ("a", "common", "y")


class Plain:
    """What entries come to, told day by day, each day from its beginning."""

    def __init__(self, entries):
        self.entries = entries
        self.ranks, self.options, self.counts, self.parts = {}, {}, {}, []
        self.done, self.wrong, self.days = [], None, set()

    def is_out(self, index):
        return any(deed == ("strike", index) and place > index and not self.is_out(place)
                   for place, (_, deed) in enumerate(self.entries))

    def order(self):
        kept = [index for index, (_, deed) in enumerate(self.entries) if deed[0] != "strike" and not self.is_out(index)]
        return tuple(sorted(kept, key=lambda index: (self.entries[index][0], index)))

    def wrong_strike(self):
        strikes = [(place, deed[1]) for place, (_, deed) in enumerate(self.entries) if deed[0] == "strike"]
        return next((place for place, named in strikes if named >= place), None)

    def run(self, first, last):
        for day in range(first, last + 1):
            self.begin(day)
            for index in self.order():
                if self.entries[index][0] == day and self.wrong is None:
                    if self.do(self.entries[index][1], day):
                        self.done.append(index)
                        self.days.add(day)
                    else:
                        self.wrong = index
        return self

    def begin(self, day):
        for part in self.parts:
            if part[0] == day:
                self.counts[part[1]] = self.counts.get(part[1], 0) + part[2]
                self.days.add(day)
        self.parts = [part for part in self.parts if part[0] > day]

    def do(self, deed, day):
        word, firm, rest = deed[0], deed[1], deed[2:]
        if word == "firm":
            free = firm not in self.ranks
            self.ranks.setdefault(firm, rest[0])
            return free
        if firm not in self.ranks:
            return False
        if word == "leave":
            self.parts = [part for part in self.parts if (part[1][0], part[1][2]) != (firm, rest[0])]
            return True
        if word == "sort":
            good = (firm, rest[0]) not in self.options and all(ranks_needed(one) <= self.ranks[firm] for one in rest[1])
            if good:
                self.options[firm, rest[0]] = rest[1]
            return good
        if (firm, rest[0]) not in self.options:
            return False
        return self.do_units(word, (firm, rest[0]), rest[1:], day)

    def do_units(self, word, sort, rest, day):
        if word == "split":
            factor = meant(rest[0])
            self.options[sort] = tuple(scaled_claim(one, told(1 / factor)) for one in self.options[sort])
            for key in self.counts:
                self.counts[key] *= factor if key[:2] == sort else 1
            self.parts = [(at, key, part * (factor if key[:2] == sort else 1)) for at, key, part in self.parts]
            return True
        key = (*sort, rest[0])
        if word != "back" and key[2] == sort[0]:
            return False
        if word == "grant":
            part = meant(rest[1]) / rest[3]
            self.parts += [(day + place * rest[2], key, part) for place in range(1, rest[3] + 1)]
            return True
        count = meant(rest[-1])
        if word == "give":
            self.counts[key] = self.counts.get(key, 0) + count
            return True
        if word == "hand" and (rest[1] in (rest[0], sort[0])):
            return False
        if self.counts.get(key, 0) < count:
            return False
        self.counts[key] -= count
        if word == "hand":
            self.counts[(*sort, rest[1])] = self.counts.get((*sort, rest[1]), 0) + count
        return True

    def held(self):
        return {key: told(self.counts[key]) for key in sorted(self.counts) if self.counts[key]}

    def lacking(self):
        found = {}
        for _, key, part in self.parts:
            found[key] = found.get(key, 0) + part
        return {key: told(found[key]) for key in sorted(found)}

    def web(self):
        firms = []
        for name in sorted(self.ranks):
            rows = [(key[2], tuple(scaled_claim(one, count) for one in self.options[key[:2]]))
                    for key, count in self.held().items() if key[0] == name]
            firms.append((name, self.ranks[name], tuple(rows)))
        return tuple(firms)


def some_entries(chance):
    """ENTRIES of which many can be done."""
    firms, sorts, holders = ("a", "b"), ("common", "pref"), ("x", "y", "b", "a")
    entries = [(chance.randint(0, 3), ("firm", firm, chance.randint(1, 6))) for firm in firms]
    for firm in firms:
        for sort in sorts:
            options = tuple(some_claim(chance, 1, 2) for _ in range(chance.randint(1, 2)))
            entries.append((chance.randint(2, 4), ("sort", firm, sort, options)))
    for _ in range(chance.randint(3, 14)):
        word = chance.choice(("give", "give", "give", "hand", "back", "split", "grant", "grant", "leave", "strike"))
        firm, sort = chance.choice(firms), chance.choice(sorts)
        holder, other = chance.choice(holders), chance.choice(holders)
        if holder == firm and chance.random() < 0.9:
            holder = "x"
        deed = {
            "give": (word, firm, sort, holder, above_zero(chance)),
            "hand": (word, firm, sort, holder, other, above_zero(chance, 2)),
            "back": (word, firm, sort, holder, above_zero(chance, 2)),
            "split": (word, firm, sort, above_zero(chance, 3)),
            "grant": (word, firm, sort, holder, above_zero(chance), chance.randint(1, 4), chance.randint(1, 4)),
            "leave": (word, firm, holder),
            "strike": (word, chance.randrange(len(entries) + (chance.random() < 0.1))),
        }[word]
        entries.append((chance.randint(3, 15), deed))
    return tuple(entries)


class Any(unittest.TestCase):
    def test_day_by_day(self):
        chance = source(50)
        rights = 0
        for _ in range(400):
            entries = some_entries(chance)
            self.assertTrue(are_entries(entries))
            plain = Plain(entries)
            self.assertEqual(order_of(entries), plain.order())
            strike = plain.wrong_strike()
            whole = Plain(entries).run(-1, 60)
            self.assertEqual(first_wrong(entries), whole.wrong if strike is None else strike)
            if strike is not None:
                self.check_refused(entries, strike, range(-1, 20))
                with self.assertRaises(NoDeed):
                    days_of(entries)
                continue
            self.assertEqual(days_of(entries), tuple(sorted(whole.days)))
            rights += whole.wrong is None
            self.check_days(entries, whole.wrong)
        self.assertGreater(rights, 30)

    def check_days(self, entries, wrong):
        behind = entries[wrong][0] if wrong is not None else 99
        self.check_refused(entries, wrong, range(behind, 20))
        for day in range(-1, min(behind, 35)):
            plain = Plain(entries).run(-1, day)
            self.assertEqual(counts_of(entries, day), plain.held())
            self.assertEqual(list(counts_of(entries, day)), list(plain.held()))
            self.assertEqual(waiting(entries, day), plain.lacking())
            self.assertEqual(list(waiting(entries, day)), list(plain.lacking()))
            self.assertEqual(web_of(entries, day), plain.web())
            self.assertTrue(is_web(web_of(entries, day)))
        if wrong is None:
            self.check_settled(entries)

    def check_settled(self, entries):
        found = settled(entries)
        self.assertEqual(found, tuple(entries[index] for index in order_of(entries)))
        self.assertEqual(order_of(found), tuple(range(len(found))))
        self.assertIsNone(first_wrong(found))
        self.assertEqual(days_of(found), days_of(entries))
        for day in range(0, 20, 3):
            self.assertEqual(web_of(found, day), web_of(entries, day))

    def check_refused(self, entries, wrong, days):
        if wrong is None:
            return
        for call in (web_of, counts_of, waiting):
            for day in days:
                with self.assertRaises(NoDeed) as caught:
                    call(entries, day)
                self.assertEqual(caught.exception.index, wrong)
        with self.assertRaises(NoDeed) as caught:
            settled(entries)
        self.assertEqual(caught.exception.index, wrong)

    def test_what_is_told_is_new(self):
        entries = (*START, (0, ("grant", *Y, (4, 1), 1, 2)))
        for call in (counts_of, waiting):
            call(entries, 0)[X] = 1
            call(entries, 0).clear()
            self.assertEqual(call(entries, 0), {X: (6, 1)} if call is counts_of else {Y: (4, 1)})


class Strikes(unittest.TestCase):
    def test_strikes_of_strikes(self):
        give = (1, ("give", *Y, (1, 1)))
        entries = (*START, give, (0, ("strike", 3)))
        self.assertEqual(order_of(entries), (0, 1, 2))
        entries = (*entries, (9, ("strike", 4)))
        self.assertEqual(order_of(entries), (0, 1, 2, 3))
        entries = (*entries, (-9, ("strike", 5)))
        self.assertEqual(order_of(entries), (0, 1, 2))
        self.assertEqual(order_of((*entries, (0, ("strike", 5)))), (0, 1, 2))
        self.assertEqual(settled(entries), START)

    def test_strikes_of_what_comes_later(self):
        entries = (*START, (0, ("strike", 4)), (1, ("give", *Y, (1, 1))))
        self.assertEqual([first_wrong(entries), order_of(entries)], [3, (0, 1, 2, 4)])
        self.assertEqual(first_wrong((*START, (0, ("strike", 3)))), 3)
        self.assertEqual(first_wrong((*START, (0, ("strike", 10 ** 900)), (0, ("strike", 3)))), 3)
        for call in (lambda: web_of(entries, -5), lambda: counts_of(entries, -5), lambda: waiting(entries, -5),
                     lambda: days_of(entries), lambda: settled(entries)):
            with self.assertRaises(NoDeed) as caught:
                call()
            self.assertEqual(caught.exception.index, 3)

    def test_a_strike_goes_before_what_cannot_be_done(self):
        entries = ((0, ("leave", "a", "x")), (5, FIRM), (7, ("strike", 2)))
        self.assertEqual(first_wrong(entries), 2)
        self.assertEqual(first_wrong(entries[:2]), 0)
        self.assertIsNone(first_wrong((*entries[:2], (7, ("strike", 0)))))


class Deeds(unittest.TestCase):
    def test_what_cannot_be_done(self):
        firm = ("firm", "b", 0)
        for deed in (
            FIRM, COMMON, ("sort", "c", "common", (SHARE,)), ("sort", "a", "new", (("due", 1, (1, 1)),)),
            ("sort", "b", "new", (SHARE, ("due", 0, (1, 1)))), ("give", "c", "common", "x", (1, 1)),
            ("give", "a", "pref", "x", (1, 1)),
            ("give", "a", "common", "a", (1, 1)), ("grant", "a", "common", "a", (1, 1), 1, 1),
            ("grant", "a", "pref", "x", (1, 1), 1, 1),
            ("hand", *X, "y", (7, 1)), ("hand", *X, "x", (1, 1)), ("hand", *X, "a", (1, 1)),
            ("hand", "a", "common", "a", "x", (1, 1)),
            ("hand", *Y, "x", (1, 1)), ("hand", "a", "pref", "x", "y", (1, 1)), ("back", *X, (25, 4)),
            ("back", *Y, (1, 9)),
            ("back", "c", "common", "x", (1, 1)), ("split", "a", "pref", (2, 1)), ("split", "b", "common", (2, 1)),
            ("leave", "c", "x"),
        ):
            entries = (*START, (0, firm), (3, deed))
            self.assertEqual(first_wrong(entries), 4, deed)
            self.assertEqual(web_of(entries, 2), web_of(entries[:4], 2))
            self.assertEqual(days_of(entries), (0,))
            with self.assertRaises(NoDeed) as caught:
                web_of(entries, 3)
            self.assertEqual(caught.exception.index, 4)

    def test_what_can(self):
        for deed, counts in (
            (("hand", *X, "y", (6, 1)), {Y: (6, 1)}), (("hand", *X, "b", (1, 2)),
                                                       {("a", "common", "b"): (1, 2), X: (11, 2)}),
            (("back", *X, (6, 1)), {}), (("split", "a", "common", (1, 4)), {X: (3, 2)}),
            (("leave", "a", "y"), {X: (6, 1)}),
            (("firm", "b", 0), {X: (6, 1)}), (PREF, {X: (6, 1)}), (("give", *X, (1, 3)), {X: (19, 3)}),
        ):
            entries = (*START, (3, deed))
            self.assertIsNone(first_wrong(entries))
            self.assertEqual([counts_of(entries, 3), counts_of(entries, 2)], [counts, {X: (6, 1)}])
            self.assertEqual(days_of(entries), (0, 3))

    def test_days_in_any_order(self):
        entries = ((5, ("give", *X, (1, 1))), (-3, FIRM), (2, COMMON), (-3, ("leave", "a", "x")))
        self.assertEqual([order_of(entries), days_of(entries)], [(1, 3, 2, 0), (-3, 2, 5)])
        self.assertEqual([web_of(entries, -4), web_of(entries, -3), web_of(entries, 10 ** 900)],
                         [(), (("a", 1, ()),), (("a", 1, (("x", (SHARE,)),)),)])
        self.assertEqual([web_of((), 0), counts_of((), 0), waiting((), 0), days_of(()), settled(()), order_of(()),
                          first_wrong(())],
                         [(), {}, {}, (), (), (), None])

    def test_on_one_day_by_index(self):
        entries = ((0, COMMON), (0, FIRM))
        self.assertEqual([first_wrong(entries), first_wrong(entries[::-1]), web_of(entries, -1)], [0, None, ()])
        with self.assertRaises(NoDeed):
            web_of(entries, 0)

    def test_holdings_stand_by_sorts_then_holders(self):
        entries = (*START, (0, PREF), (0, ("give", "a", "pref", "b", (1, 1))),
                   (0, ("give", "a", "common", "z", (1, 1))))
        self.assertEqual([holding[0] for holding in web_of(entries, 0)[0][2]], ["x", "z", "b"])


class Grants(unittest.TestCase):
    def test_parts_come_first_on_their_day(self):
        grant = (0, ("grant", *Y, (6, 1), 5, 3))
        for day, good in ((4, False), (5, True), (6, True)):
            entries = (*START, (day, ("back", *Y, (2, 1))), grant)
            self.assertEqual(first_wrong(entries), None if good else 3)
        entries = (*START, grant)
        self.assertEqual([counts_of(entries, day).get(Y) for day in (0, 4, 5, 9, 10, 15, 99)],
                         [None, None, (2, 1), (2, 1), (4, 1), (6, 1), (6, 1)])
        self.assertEqual([waiting(entries, day) for day in (-1, 0, 5, 14, 15)],
                         [{}, {Y: (6, 1)}, {Y: (4, 1)}, {Y: (2, 1)}, {}])
        self.assertEqual(days_of(entries), (0, 5, 10, 15))

    def test_splits_and_leaves_between_parts(self):
        grant = (0, ("grant", *Y, (6, 1), 5, 3))
        entries = (*START, grant, (5, ("split", "a", "common", (1, 2))), (10, ("leave", "a", "y")),
                   (10, ("give", *X, (1, 1))))
        self.assertEqual([counts_of(entries, day)[Y] for day in (5, 9, 10, 99)], [(1, 1), (1, 1), (2, 1), (2, 1)])
        self.assertEqual([waiting(entries, 9), waiting(entries, 10)], [{Y: (2, 1)}, {}])
        self.assertEqual(days_of(entries), (0, 5, 10))
        self.assertEqual(web_of(entries, 9)[0][2], (("x", (("shares", (6, 1)),)), ("y", (("shares", (2, 1)),))))

    def test_a_leave_takes_what_stands_ahead_of_it(self):
        grant, leave = ("grant", *Y, (6, 1), 5, 3), ("leave", "a", "y")
        self.assertEqual(waiting((*START, (0, grant), (0, leave)), 0), {})
        self.assertEqual(waiting((*START, (0, leave), (0, grant)), 0), {Y: (6, 1)})
        self.assertEqual(waiting((*START, (0, grant), (0, ("leave", "a", "x"))), 0), {Y: (6, 1)})
        self.assertEqual(days_of((*START, (0, grant), (0, leave))), (0,))

    def test_parts_behind_what_cannot_be_done_are_told(self):
        entries = (*START, (0, ("grant", *Y, (6, 1), 5, 3)), (7, ("back", *Y, (9, 1))), (8, ("leave", "a", "y")))
        self.assertEqual([first_wrong(entries), days_of(entries)], [4, (0, 5, 10, 15)])

    def test_a_struck_grant(self):
        entries = (*START, (0, ("grant", *Y, (6, 1), 5, 3)), (9, ("strike", 3)))
        self.assertEqual([waiting(entries, 0), counts_of(entries, 99), days_of(entries)], [{}, {X: (6, 1)}, (0,)])

    def test_two_grants_of_one(self):
        entries = (*START, (0, ("grant", *Y, (1, 1), 3000, 60)), (1, ("grant", *Y, (1, 3), 1, 1)))
        self.assertEqual([waiting(entries, 1), waiting(entries, 2), counts_of(entries, 3000)[Y]],
                         [{Y: (4, 3)}, {Y: (1, 1)}, (7, 20)])
        self.assertEqual(days_of(entries)[-1], 180000)
        self.assertEqual(sum(meant(one) for one in counts_of(entries, 180000).values()), 6 + Fraction(4, 3))


if __name__ == "__main__":
    unittest.main()
