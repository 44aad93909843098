"""[42] the desk."""

import unittest

from bounds import within
from making import ODD_VALUES, above_zero, meant, nested, some_claim, some_fraction, source
from soldwhole.deeds import deed_of, deed_text
from soldwhole.desk import Desk
from soldwhole.errors import Circle, NoCommand, NoDeed, NotFounded, Nothing, SoldError, Wrong
from soldwhole.forms import firm_of
from soldwhole.fractions import fraction_text
from soldwhole.kept import Kept
from soldwhole.ledgers import first_wrong, web_of
from soldwhole.outcomes import most_choices, outcome
from soldwhole.papertexts import show_web
from soldwhole.signs import paid_to
from soldwhole.webs import circle_of, persons_of

NOUGHT, ONE, FOUR = (0, 1), (1, 1), (4, 1)
LINES = ("enter 0 firm a 1", "enter 0 sort a common shares 1", "enter 1 sort a pref due 0 4 or shares 1",
         "enter 1 give a common x 1", "enter 2 give a pref y 1", "amount a 10")
NAMES, HOLDERS, SORTS = ("asp", "bay", "cow"), ("asp", "bay", "cow", "ann", "bob", "cat"), ("common", "pref")
ASKED = ("web", "paid", "level", "choose")


def desk_of(*lines):
    desk = Desk()
    for line in lines:
        desk.execute(line)
    return desk


def some_deed(chance, index):
    firm, sort, holder = chance.choice(NAMES), chance.choice(SORTS), chance.choice(HOLDERS)
    kind = chance.random()
    if kind < 0.12:
        return ("firm", firm, chance.randint(0, 2))
    if kind < 0.26:
        options = tuple(some_claim(chance, chance.randint(0, 2), 1) for _ in range(chance.randint(1, 2)))
        return ("sort", firm, sort, (("shares", ONE),) if sort == "common" else options)
    if kind < 0.66:
        return ("give", firm, sort, holder, above_zero(chance))
    if kind < 0.72:
        return ("hand", firm, sort, holder, chance.choice(HOLDERS), above_zero(chance, 2))
    if kind < 0.76:
        return ("back", firm, sort, holder, above_zero(chance, 2))
    if kind < 0.82:
        return ("split", firm, sort, above_zero(chance, 3))
    if kind < 0.88:
        return ("grant", firm, sort, holder, above_zero(chance), chance.randint(1, 3), chance.randint(1, 3))
    return ("leave", firm, holder) if kind < 0.92 else ("strike", chance.randrange(index + 1))


def some_lines(chance, many):
    """Lines that enter and tell, most of which begin with what can be done."""
    begun = [f"enter 0 firm {name} {ranks}" for name, ranks in zip(NAMES, (1, 2, 0)) if chance.random() < 0.9]
    begun += [f"enter 0 sort {name} common shares 1" for name in NAMES if chance.random() < 0.95]
    begun += [f"enter 1 give {name} common ann 2" for name in NAMES if chance.random() < 0.9]
    if chance.random() < 0.6:
        # From the day 1 on asp and bay owe one another.
        for name, holder in (("asp", "bay"), ("bay", "asp")):
            begun += [f"enter 0 sort {name} debt due 0 3", f"enter 1 give {name} debt {holder} 1"]
    lines = []
    for _ in range(many):
        kind = chance.random()
        if kind < 0.7:
            lines.append(f"enter {chance.randint(-2, 6)} {deed_text(some_deed(chance, len(begun) + len(lines)))}")
        elif kind < 0.9:
            lines.append(f"amount {chance.choice(NAMES)} {fraction_text(some_fraction(chance, 20))}")
        else:
            lines.append("undo")
    return begun + lines


class Meant:
    """A desk by the words of the promise: it keeps all states, and asks the functions of the other stages."""

    def __init__(self):
        self.states = [((), {})]

    def execute(self, line):
        words = line.split(" ")
        entries, amounts = self.states[-1]
        if words[0] == "enter":
            self.states.append(((*entries, (int(words[1]), deed_of(" ".join(words[2:])))), amounts))
            return [str(len(entries))]
        if words[0] == "amount":
            n, _, d = words[2].partition("/")
            self.states.append((entries, {**amounts, words[1]: (int(n), int(d or 1))}))
            return ["done"]
        if words[0] == "undo":
            if len(self.states) == 1:
                return ["nothing"]
            self.states.pop()
            return ["done"]
        if words[0] == "entries":
            return [f"{day} {deed_text(deed)}" for day, deed in entries]
        if words[0] == "wrong":
            return [str(first_wrong(entries)).replace("None", "none")]
        return self.asked(*words)

    def asked(self, word, day, name=None):
        entries, told = self.states[-1]
        try:
            web = web_of(entries, int(day))
            if word == "web":
                return show_web(web).splitlines()
            amounts = {firm[0]: told.get(firm[0], NOUGHT) for firm in web}
            levels, payments = outcome(web, amounts)
        except NoDeed as error:
            return [f"wrong {error.index}"]
        except NotFounded as error:
            return [f"not founded {error.name}"]
        except Circle as error:
            return ["circle " + " ".join(error.names)]
        if word == "paid":
            return [f"{person} {fraction_text(pay)}" for person, pay in paid_to(web, payments).items()]
        if word == "level":
            return [fraction_text(levels[name])] if name in levels else None
        if name not in persons_of(web):
            return None
        choices = most_choices(web, amounts)
        return [f"{firm} {index} {choices[firm][index]}" for firm, _, holdings in web
                for index, (holder, options) in enumerate(holdings) if holder == name and len(options) > 1]


def all_questions():
    days = ("-1", "0", "1", "3", "9")
    return (["entries", "wrong"] + [f"{word} {day}" for word in ("web", "paid") for day in days]
            + [f"{word} {day} {name}" for word in ("level", "choose") for day in days[1:] for name in (*HOLDERS, "who")])


class Commands(unittest.TestCase):
    def check(self, desk, line, answer):
        if answer is None:
            with self.assertRaises(NoCommand) as caught:
                desk.execute(line)
            self.assertEqual(caught.exception.line, line)
        else:
            self.assertEqual(desk.execute(line), answer, line)

    def test_against_the_words(self):
        chance = source(420)
        seen = {}
        for _ in range(120):
            desk, other = Desk(), Meant()
            for line in some_lines(chance, chance.choice((2, 6, 14))):
                self.check(desk, line, other.execute(line))
                entries, amounts = other.states[-1]
                self.assertEqual([desk.told_entries(), desk.told_amounts()], [entries, amounts])
                self.assertEqual(list(desk.told_amounts()), sorted(amounts))
            for line in all_questions():
                answer = other.execute(line)
                self.check(desk, line, answer)
                first = "no command" if answer is None else " ".join(answer[:1]).split(" ")[0]
                if line.split(" ")[0] in ASKED:
                    kind = first if first in ("no command", "wrong", "not", "circle") else "told"
                    seen[line.split(" ")[0], kind] = seen.get((line.split(" ")[0], kind), 0) + 1
        for word in ASKED:
            for kind in ("told", "wrong", "not", "circle", "no command"):
                if (word != "web" or kind in ("told", "wrong")) and (word != "paid" or kind != "no command"):
                    self.assertGreater(seen.get((word, kind), 0), 5, (word, kind))

    def test_undo_leads_back_one_by_one_to_the_beginning(self):
        chance = source(421)
        for _ in range(30):
            desk, states = Desk(), []
            lines = [line for line in some_lines(chance, 12) if line != "undo"]
            for line in lines:
                states.append((desk.told_entries(), desk.told_amounts(), desk.twin()))
                desk.execute(line)
            while states:
                self.assertEqual(desk.execute("undo"), ["done"])
                entries, amounts, twin = states.pop()
                self.assertEqual([desk.told_entries(), desk.told_amounts()], [entries, amounts])
                self.assertIs(desk == twin, True)
                for line in ("wrong", "web 9", "paid 9"):
                    self.assertEqual(desk.execute(line), twin.execute(line))
            for _ in range(2):
                self.assertEqual(desk.execute("undo"), ["nothing"])
            self.assertIs(desk == Desk(), True)

    def test_whatever_was_asked_ahead_the_same_is_told(self):
        chance = source(422)
        for _ in range(20):
            lines = [line for line in some_lines(chance, 12)]
            asked, unasked = Desk(), desk_of(*lines)
            questions = all_questions()
            for line in lines:
                for question in chance.sample(questions, 3):
                    self.ask(asked, question)
                asked.execute(line)
            self.assertEqual([self.ask(asked, one) for one in questions], [self.ask(unasked, one) for one in questions])
            for _ in range(4):
                self.assertEqual([asked.execute("undo"), self.ask(asked, "paid 3")],
                                 [unasked.execute("undo"), self.ask(unasked, "paid 3")])

    def ask(self, desk, line):
        try:
            return desk.execute(line)
        except NoCommand:
            return None


class Answers(unittest.TestCase):
    def test_each_command(self):
        desk = Desk()
        self.assertEqual([desk.execute(line) for line in LINES], [["0"], ["1"], ["2"], ["3"], ["4"], ["done"]])
        for line, answer in (
            ("entries", [line[6:] for line in LINES[:5]]), ("wrong", ["none"]), ("web -1", []), ("web 0", ["firm a 1"]),
            ("web 1", ["firm a 1", "held x", "as shares 1"]), ("paid 1", ["x 10"]), ("paid 2", ["x 5", "y 5"]),
            ("paid -1", []), ("paid 0", ["not founded a"]), ("level 2 a", ["6"]), ("level 1 a", ["11"]),
            ("choose 2 y", ["a 1 1"]), ("choose 2 x", []), ("paid 999999999", ["x 5", "y 5"]), ("amount a 13/2", ["done"]),
            ("paid 2", ["x 5/2", "y 4"]), ("choose 2 y", ["a 1 0"]), ("level 2 a", ["7/2"]), ("undo", ["done"]),
            ("paid 2", ["x 5", "y 5"]), ("undo", ["done"]), ("paid 2", ["x 0", "y 0"]), ("undo", ["done"]),
            ("paid 2", ["x 0"]), ("enter 1 back a common x 2", ["4"]), ("paid 2", ["wrong 4"]), ("level 1 a", ["wrong 4"]),
            ("choose 1 x", ["wrong 4"]), ("web 1", ["wrong 4"]), ("web 0", ["firm a 1"]), ("wrong", ["4"]),
            ("enter 9 strike 4", ["5"]), ("wrong", ["none"]), ("paid 2", ["x 0"]), ("enter 9 strike 6", ["6"]),
            ("wrong", ["6"]), ("web 0", ["wrong 6"]), ("undo", ["done"]), ("paid 2", ["x 0"]),
        ):
            self.assertEqual(desk.execute(line), answer, line)

    def test_days_in_any_order(self):
        desk = desk_of("enter 5 give a common y 1", "enter -3 firm a 0", "enter -2 sort a common shares 2",
                       "enter -2 give a common x 1", "enter 7 back a common x 2", "amount a 6")
        for day, answer in ((-4, []), (-3, ["not founded a"]), (-2, ["x 6"]), (4, ["x 6"]), (5, ["x 3", "y 3"]),
                            (6, ["x 3", "y 3"]), (7, ["wrong 4"]), (8, ["wrong 4"])):
            self.assertEqual(desk.execute(f"paid {day}"), answer, day)
        self.assertEqual([desk.execute("wrong"), desk.execute("entries")[0]], [["4"], "5 give a common y 1"])

    def test_amounts_of_firms_that_are_not_there(self):
        desk = desk_of(*LINES, "amount zoe 5", "amount x 7", "amount b 0")
        self.assertEqual(desk.execute("paid 2"), ["x 5", "y 5"])
        self.assertEqual(list(desk.told_amounts().items()), [("a", (10, 1)), ("b", NOUGHT), ("x", (7, 1)), ("zoe", (5, 1))])
        desk.execute("enter 3 firm b 0")
        self.assertEqual(desk.execute("paid 3"), ["not founded b"])
        desk.execute("undo")
        self.assertEqual(desk.execute("undo"), ["done"])
        self.assertEqual(desk.told_amounts(), {"a": (10, 1), "x": (7, 1), "zoe": (5, 1)})

    def test_an_amount_told_again_is_taken_back_to_the_one_ahead(self):
        desk = desk_of("amount a 1", "amount b 2", "amount a 3", "amount a 3")
        found = [desk.told_amounts()]
        while desk.execute("undo") == ["done"]:
            found.append(desk.told_amounts())
        self.assertEqual(found, [{"a": (3, 1), "b": (2, 1)}, {"a": (3, 1), "b": (2, 1)}, {"a": ONE, "b": (2, 1)},
                                 {"a": ONE}, {}])

    def test_webs_that_are_not_clear(self):
        ring = [f"enter 0 {line}" for line in (
            "firm a 1", "firm b 1", "sort a common shares 1", "sort b common shares 1", "sort a pref due 0 4",
            "sort b pref due 0 4", "give a common x 1", "give b common x 1", "give a pref b 1", "give b pref a 1",
        )]
        desk = desk_of(*ring)
        names = circle_of(web_of(desk.told_entries(), 0))
        for line in ("paid 0", "level 0 a", "level 0 who", "choose 0 x", "choose 0 who", "choose 0 a"):
            self.assertEqual(desk.execute(line), ["circle " + " ".join(names)], line)
        desk.execute("enter 0 firm c 0")
        for line in ("paid 0", "level 0 a", "level 0 who", "choose 0 x", "choose 0 who"):
            self.assertEqual(desk.execute(line), ["not founded c"], line)
        self.assertEqual(desk.execute("web 0")[-1], "firm c 0")
        desk.execute("enter 0 firm c 0")
        for line in ("web 0", "paid 0", "level 0 a", "level 0 who", "choose 0 x", "choose 0 who"):
            self.assertEqual(desk.execute(line), ["wrong 11"], line)

    def test_firms_and_persons_that_are_not_in_the_web_of_the_day(self):
        desk = desk_of(*LINES)
        for line in ("level 2 b", "level 2 x", "choose 2 a", "choose 2 z", "choose 1 y", "level -1 a", "choose -1 x"):
            with self.assertRaises(NoCommand) as caught:
                desk.execute(line)
            self.assertEqual(caught.exception.line, line)
        # Behind all other answers: at 0 a is not founded.
        for line in ("level 0 b", "level 0 a", "choose 0 x", "choose 0 a"):
            self.assertEqual(desk.execute(line), ["not founded a"])

    def test_numbers_of_many_digits(self):
        desk = desk_of(*LINES)
        great = "9" * 40
        self.assertEqual(desk.execute(f"amount a {great}/{10 ** 39}"), ["done"])
        self.assertEqual(desk.told_amounts()["a"], (int(great), 10 ** 39))
        self.assertEqual(desk.execute("enter -999999999 firm b 0"), ["5"])
        self.assertEqual(desk.execute("enter 999999999 firm c 0"), ["6"])
        self.assertEqual(desk.execute("web -999999999"), ["firm b 0"])
        deep = "capped 5 " * 200 + "shares 1"
        self.assertEqual(desk.execute(f"enter 3 sort a deep {deep}"), ["7"])
        self.assertEqual(desk.execute("entries")[7], f"3 sort a deep {deep}")
        self.assertEqual(desk.told_entries()[7][1][3], (nested(200),))


class Forms(unittest.TestCase):
    def test_lines_that_are_no_commands(self):
        desk = desk_of(*LINES)
        twin = desk.twin()
        for line in (
            "", " ", "  ", "\n", "undo ", " undo", "undo undo", "undo 1", "Undo", "UNDO", "undo\n", "entries 1", "entrie",
            "wrong 0", "wrong ", "web", "web ", "web  1", "web 1 ", "web 1 a", "web a", "web 1/1", "web 01", "web -0",
            "web +1", "web 1.0", "web 1000000000", "web -1000000000", "web 0000000001", "web \n1", "web 1\n", "paid",
            "paid x", "paid 1 x", "paid 1/2", "level", "level 2", "level a", "level a 2", "level 2 A", "level 2 a b",
            "level 2  a", "level 2 a ", "level x a", "level 2 abcdefghijklm", "choose", "choose 2", "choose y 2",
            "choose 2 y y", "choose 2 Y", "choose 2 ", "choose 2 y2", "amount", "amount a", "amount 5", "amount a -1",
            "amount a 2/4", "amount a 5/1", "amount a 05", "amount a 1/0", "amount a 1/-2", "amount a 1.5", "amount a x",
            "amount A 5", "amount a 5 5", "amount a  5", "amount a " + "1" * 41, "amount a 1/" + "3" * 41, "amount a -0",
            "amount abcdefghijklm 5", "enter", "enter 0", "enter 0 ", "enter firm a 1", "enter 0 firm", "enter 0 firm a",
            "enter 0 firm a 7", "enter 0 firm a -1", "enter 0 firm a 1 1", "enter 0 firm A 1", "enter  0 firm a 1",
            "enter 0  firm a 1", "enter 0 firm a 1 ", "enter x firm a 1", "enter 1/2 firm a 1", "enter 0000000000 firm a 1",
            "enter 1234567890 firm b 1", "enter -1234567890 firm b 1", "enter 00 firm b 1", "enter 0 give a common x 2/4",
            "enter 0 give a common x 0", "enter 0 give a common x -1", "enter 0 give a common x", "enter 0 strike -1",
            "enter 0 strike", "enter 0 strike 1 2", "enter 0 grant a common x 1 0 1", "enter 0 grant a common x 1 3001 1",
            "enter 0 grant a common x 1 1 61", "enter 0 sort a b", "enter 0 sort a b due 6 1", "enter 0 sort a b none or",
            "enter 0 sort a b none or none or none or none or none", "enter 0 undo", "enter 0 enter 0 firm a 1",
            "enter 0 strike " + "1" * 41, "firm a 1", "give a common x 1", "help", "paid 1\npaid 1", "enter 0 firm b\n1",
        ):
            with self.assertRaises(NoCommand) as caught:
                desk.execute(line)
            self.assertEqual(caught.exception.line, line)
        self.assertIs(desk == twin, True)
        self.assertEqual([desk.execute("undo"), desk.told_amounts()], [["done"], {}])

    def test_no_command_whatever_the_day(self):
        """Also where the entries are wrong, or the web of the day is not clear."""
        desk = desk_of("enter 0 strike 5")
        for line in ("level 0", "level 0 A", "paid 0 x", "web", "choose 0 x y", "level x a"):
            with self.assertRaises(NoCommand):
                desk.execute(line)
        self.assertEqual(desk.execute("level 0 a"), ["wrong 0"])

    def test_words_out_more_and_twice(self):
        chance = source(423)
        lines = (*LINES, "undo", "entries", "wrong", "web 1", "paid 1", "level 1 a", "choose 1 x")
        tried = 0
        for _ in range(400):
            words = chance.choice(lines).split(" ")
            place = chance.randrange(len(words))
            kind = chance.randrange(4)
            if kind == 0:
                words = words[:place] + words[place + 1:]
            elif kind == 1:
                words = words[:place] + [chance.choice(("", "a", "1", "undo", "or"))] + words[place:]
            elif kind == 2:
                words = words[:place] + [words[place]] + words[place:]
            else:
                words = words[:place] + [chance.choice((words[place].upper(), "", "-", "x y"))] + words[place + 1:]
            line = " ".join(words)
            desk = desk_of(*LINES)
            before = desk.twin()
            try:
                desk.execute(line)
            except NoCommand as error:
                self.assertEqual(error.line, line)
                self.assertIs(desk == before, True)
                tried += 1
        self.assertGreater(tried, 250)

    def test_wrong_values(self):
        desk = desk_of(*LINES)
        before = desk.twin()
        for thing in (*ODD_VALUES, desk, Kept(()), b"undo", ["undo"], ("undo",), {"undo": 1}):
            with self.assertRaises(NoCommand if isinstance(thing, str) else Wrong) as caught:
                desk.execute(thing)
            if not isinstance(thing, str):
                self.assertEqual(caught.exception.place, 0)
        self.assertIs(desk == before, True)
        self.assertEqual(desk.execute("undo"), ["done"])

    def test_long_lines(self):
        desk = Desk()
        for line in ("x" * 3000, " " * 3000, "undo" * 700, "enter 0 sort a b " + "capped 1 " * 300,
                     "enter 0 sort a b sum " + "9" * 40, "\n" * 3000):
            with self.assertRaises(NoCommand) as caught:
                desk.execute(line)
            self.assertIs(caught.exception.line, line)


class Objects(unittest.TestCase):
    def test_equal_ones(self):
        one = desk_of(*LINES)
        self.assertIs(one == desk_of(*LINES), True)
        self.assertIs(one != desk_of(*LINES), False)
        self.assertIs(one == desk_of(LINES[5], *LINES[:5]), True)
        self.assertIs(desk_of("amount a 1", "amount b 1") == desk_of("amount b 1", "amount a 2", "amount a 1"), True)
        for lines in (LINES[:5], (*LINES, "amount a 11"), (*LINES, "amount b 0"), LINES[1:], ()):
            self.assertIs(one == desk_of(*lines), False)
        for thing in (*ODD_VALUES, Kept(()), one.told_entries(), object()):
            self.assertIs(one == thing, False)
            self.assertIs(thing == one, False)
        self.assertIs(Desk() == Kept(()), False)

    def test_twins_go_on_by_themselves(self):
        one = desk_of(*LINES)
        twin = one.twin()
        self.assertIsInstance(twin, Desk)
        self.assertIs(twin == one, True)
        one.execute("amount a 3")
        one.execute("enter 3 give a common z 1")
        self.assertEqual([twin.execute("paid 3"), one.execute("paid 3")], [["x 5", "y 5"], ["x 0", "y 3", "z 0"]])
        for _ in LINES:
            self.assertEqual(twin.execute("undo"), ["done"])
        self.assertEqual([twin.execute("undo"), twin == Desk(), len(one.told_entries())], [["nothing"], True, 6])
        self.assertEqual([one.execute("undo"), one.execute("undo"), one == desk_of(*LINES)], [["done"], ["done"], True])

    def test_the_callers_changes_change_nothing(self):
        desk = desk_of(*LINES)
        for found in (desk.execute("entries"), desk.execute("web 2"), desk.execute("paid 2"), desk.told_amounts()):
            found.clear()
        self.assertIs(desk == desk_of(*LINES), True)
        self.assertEqual([desk.execute("paid 2"), len(desk.execute("entries"))], [["x 5", "y 5"], 5])
        self.assertIsInstance(desk.told_entries(), tuple)

    def test_each_method_stands_in_the_class_itself(self):
        for name in ("execute", "told_entries", "told_amounts", "twin", "__eq__", "__init__"):
            self.assertIn(name, vars(Desk))

    def test_its_errors(self):
        self.assertTrue(all(issubclass(kind, SoldError) for kind in (NoCommand, Wrong, Nothing)))


class Bounds(unittest.TestCase):
    def test_some_hundred_entries(self):
        chance = source(424)
        firms, persons = ("asp", "bay", "cow", "doe", "elm", "fox"), ("ann", "bob", "cat", "dan")
        lines = []
        for firm in firms:
            lines += [f"enter 0 firm {firm} 2", f"enter 0 sort {firm} common shares 1", f"enter 0 give {firm} common ann 9",
                      f"enter 0 sort {firm} pref sum 2 due 0 4 capped 9 shares 1 or shares 1 or option 2 3",
                      f"amount {firm} {chance.randint(1, 900)}"]
        while len(lines) < 500:
            firm = chance.choice(firms[:-1])
            holder = chance.choice([other for other in firms if other > firm][:1] + list(persons[:2]))
            sort, day = chance.choice(("common", "pref")), chance.randint(1, 900)
            words = chance.choice((f"give {firm} {sort} {holder} {chance.randint(1, 9)}", f"split {firm} common 3/2",
                                   f"grant {firm} {sort} {holder} {chance.randint(1, 99)} {chance.randint(1, 30)} 60",
                                   f"leave {firm} {holder}", f"strike {chance.randrange(200, 9999)}"))
            if not words.startswith("strike") or int(words[7:]) < len(lines) - 6:
                lines.append(f"enter {day} {words}")
        with within(self):
            desk = desk_of(*lines)
            self.assertEqual(desk.execute("wrong"), ["none"])
            for day in (0, 450, 900, 3000):
                paid = desk.execute(f"paid {day}")
                self.assertGreater(len(paid), 0)
                desk.execute(f"web {day}")
                desk.execute(f"level {day} asp")
                desk.execute(f"choose {day} ann")
        web = web_of(desk.told_entries(), 900)
        amounts = {name: desk.told_amounts()[name] for name, _, _ in web}
        self.assertEqual(sum(map(meant, paid_to(web, outcome(web, amounts)[1]).values())), sum(map(meant, amounts.values())))
        self.assertGreater(len(firm_of(web, "asp")[2]), 4)


if __name__ == "__main__":
    unittest.main()
