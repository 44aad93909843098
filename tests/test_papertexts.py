"""[17] texts of webs."""

import itertools
import unittest

from making import ODD_VALUES, exchanged_deep, nested, some_claim, source
from soldwhole.errors import NoText, SoldError, Wrong
from soldwhole.forms import is_web
from soldwhole.papertexts import read_claim, read_web, show_claim, show_web

SHARE, DUE = ("shares", (1, 1)), ("due", 0, (4, 1))
FORTY, MORE = "9" * 40, "9" * 41
GREATEST = "z" * 12


def place_of(read, *arguments):
    """Where a text shows nothing, None if it shows something."""
    try:
        read(*arguments)
    except NoText as error:
        return (error.line, error.column)
    return None


def some_web(chance):
    firms = []
    for name in sorted(chance.sample(["a", "b", "firm", "held", "as", "none"], chance.randint(0, 4))):
        ranks = chance.randint(0, 6)
        holders = [holder for holder in ("x", "as", "b", "zed") if holder != name]
        holdings = [(chance.choice(holders), tuple(some_claim(chance, ranks) for _ in range(chance.randint(1, 3))))
                    for _ in range(chance.randint(0, 3))]
        firms.append((name, ranks, tuple(holdings)))
    return tuple(firms)


class Claims(unittest.TestCase):
    def test_shown_and_read(self):
        chance = source(30)
        for _ in range(300):
            ranks = chance.randint(0, 6)
            claim = some_claim(chance, ranks, 5)
            text = show_claim(claim)
            self.assertEqual(read_claim(ranks, text), claim)
            self.assertEqual(show_claim(read_claim(ranks, text)), text)

    def test_named(self):
        for ranks, text, claim in (
            (0, "none", ("none",)), (6, "due 5 1/2", ("due", 5, (1, 2))), (0, "shares 7", ("shares", (7, 1))),
            (0, "option 1/2 3", ("option", (1, 2), (3, 1))), (0, "capped 6 none", ("capped", ("none",), (6, 1))),
            (1, "sum 3 none capped 2 due 0 4 shares 1", ("sum", (("none",), ("capped", DUE, (2, 1)), SHARE))),
            (0, "sum 2 sum 2 none shares 1 none", ("sum", (("sum", (("none",), SHARE)), ("none",)))),
        ):
            self.assertEqual(show_claim(claim), text)
            self.assertEqual(read_claim(ranks, text), claim)

    def test_many_digits(self):
        self.assertEqual(read_claim(0, f"shares {FORTY}/1{'0' * 39}"), ("shares", (10 ** 40 - 1, 10 ** 39)))
        self.assertEqual(place_of(read_claim, 0, f"sum {FORTY}"), (0, 2))
        for text, column in ((f"shares {MORE}", 1), (f"option 1/{MORE} 1", 1), (f"option 1 {MORE}/2", 2),
                             (f"sum {MORE}", 1),
                             (f"due {MORE} 1", 1), (f"capped 1{'0' * 40} none", 1)):
            self.assertEqual(place_of(read_claim, 1, text), (0, column), text)
        great = ("shares", (10 ** 6000, 3))
        self.assertEqual(show_claim(great), "shares 1" + "0" * 6000 + "/3")

    def test_no_texts(self):
        for ranks, text, column in (
            (1, "", 0), (1, " ", 0), (1, " none", 0), (1, "none ", 1), (1, "none none", 1), (1, "none\n", 0),
            (1, "None", 0),
            (1, "due", 1), (0, "due", 0), (0, "due 0 1", 0), (1, "due 1", 1), (1, "due 1 4", 1), (1, "due -1 4", 1),
            (1, "due 00 4", 1), (1, "due 0", 2), (1, "due 0 0", 2), (1, "due 0 -4", 2), (1, "due 0/1 4", 1),
            (1, "due  0 4", 1),
            (1, "due 0  4", 2), (1, "due 0 4 4", 3), (1, "shares", 1), (1, "shares 2/4", 1), (1, "shares 4/1", 1),
            (1, "shares +4", 1), (1, "shares 0", 1), (1, "shares one", 1), (1, "option 1", 2), (1, "option 0 1", 1),
            (1, "option 1 0", 2), (1, "capped", 1), (1, "capped none 1", 1), (1, "capped 1", 2), (1, "capped 1 2", 2),
            (1, "sum", 1), (1, "sum 1 none", 1), (1, "sum 0", 1), (1, "sum -2", 1), (1, "sum 02", 1), (1, "sum 2", 2),
            (1, "sum 2 none", 3), (1, "sum 2 none none none", 4), (1, "sum 4/2 none none", 1),
            (1, "sum 2\nnone none", 1),
            (1, "firm", 0), (1, "as none", 0), (1, "none or none", 1),
        ):
            self.assertEqual(place_of(read_claim, ranks, text), (0, column), (ranks, text))

    def test_the_first_word_that_cannot_stand(self):
        shown = {many: set() for many in range(1, 9)}
        for many in shown:
            shown[many] = set(self.claims_of(many, shown))
        begun = {words[:many] for each in shown.values() for words in each for many in range(len(words) + 1)}
        whole = set().union(*shown.values())
        vocabulary = ("none", "due", "shares", "capped", "sum", "0", "1", "2", "")
        for many in range(1, 5):
            for words in itertools.product(vocabulary, repeat=many):
                bad = [place for place in range(many) if words[:place + 1] not in begun]
                expected = None if words in whole else (0, bad[0] if bad else many)
                self.assertEqual(place_of(read_claim, 1, " ".join(words)), expected, words)

    def claims_of(self, many, shown):
        """All claims with so many words, of numbers up to 2, told from shorter ones."""
        if many == 1:
            yield ("none",)
        for number in ("1", "2"):
            if many == 2:
                yield ("shares", number)
            if many == 3:
                yield ("due", "0", number)
            yield from (("capped", number) + inner for inner in shown.get(many - 2, ()))
        for first in range(1, many - 2):
            for one, other in itertools.product(shown[first], shown[many - 2 - first]):
                yield ("sum", "2") + one + other

    def test_any_depth(self):
        for depth in (100, 330):
            deep = nested(depth, SHARE)
            self.assertEqual(read_claim(0, show_claim(deep)), deep)
            sums = nested(depth, SHARE, "sum")
            self.assertEqual(read_claim(0, show_claim(sums)), sums)
        self.assertEqual(place_of(read_claim, 0, " ".join(["sum 2"] * 500)), (0, 1000))
        self.assertEqual(place_of(read_claim, 0, " ".join(["capped 1"] * 330 + ["due"])), (0, 660))

    def test_wrong(self):
        for thing in ODD_VALUES + (7, (1,), [1]):
            if not isinstance(thing, int) or isinstance(thing, bool) or not 0 <= thing <= 6:
                for text in ("none", "", 5):
                    self.check_wrong(0, read_claim, thing, text)
            if not isinstance(thing, str):
                self.check_wrong(1, read_claim, 0, thing)
                self.check_wrong(0, read_web, thing)

    def check_wrong(self, place, call, *arguments):
        with self.assertRaises(Wrong) as caught:
            call(*arguments)
        self.assertEqual(caught.exception.place, place)


class Webs(unittest.TestCase):
    def test_shown_and_read(self):
        chance = source(31)
        for _ in range(200):
            web = some_web(chance)
            self.assertTrue(is_web(web))
            text = show_web(web)
            self.assertEqual(read_web(text), web)
            self.assertEqual(show_web(read_web(text)), text)
        self.assertEqual([show_web(()), read_web("")], ["", ()])

    def test_named(self):
        text = "firm a 0\nfirm b 1\nheld a\nas due 0 4\nas shares 1\nheld x\nas none\nfirm zz 6"
        web = (("a", 0, ()), ("b", 1, (("a", (DUE, SHARE)), ("x", (("none",),)))), ("zz", 6, ()))
        self.assertEqual([read_web(text), show_web(web)], [web, text])
        for word in ("firm", "held", "as"):
            self.assertEqual(read_web(f"firm {word} 0\nheld x\nas none"), ((word, 0, (("x", (("none",),)),)),))

    def test_no_texts(self):
        firm, held, option = "firm a 1\n", "firm a 1\nheld x\n", "firm a 1\nheld x\nas none\n"
        for text, line, column in (
            ("\n", 0, 0), (" ", 0, 0), ("firm", 0, 1), ("firm a", 0, 2), ("firm a 1 ", 0, 3), ("firm a 1 1", 0, 3),
            ("firm A 1", 0, 1),
            ("firm  a 1", 0, 1), ("firm a 7", 0, 2), ("firm a -1", 0, 2), ("firm a 01", 0, 2), ("firm a 1/2", 0, 2),
            ("Firm a 1", 0, 0),
            ("firm " + "a" * 13 + " 1", 0, 1), ("held x", 0, 0), ("as none", 0, 0), ("none", 0, 0), (" firm a 1", 0, 0),
            (firm, 1, 0), (firm + "\n", 1, 0), (firm + "as none", 1, 0), (firm + "held", 1, 1), (firm + "held a", 1, 1),
            (firm + "held x x", 1, 2), (firm + "held X", 1, 1), (firm + "held ", 1, 1), (firm + "firm a 1", 1, 1),
            (firm + "firm", 1, 1),
            (firm + "firm b", 1, 2), (firm + "held x", 2, 0), (held + "held y", 2, 0), (held + "firm b 0", 2, 0),
            (held, 2, 0),
            (held + "as", 2, 1), (held + "as due", 2, 2), (held + "as due 1 4", 2, 2), (held + "as due 0 4 4", 2, 4),
            (held + "as none ", 2, 2), (held + "as  none", 2, 1), (held + "as sum 1", 2, 2),
            (held + "as sum 2 none", 2, 4),
            (option, 3, 0), (option + "none", 3, 0), (option + "held y", 4, 0), (option + "firm a 0", 3, 1),
            (option + "as", 3, 1),
            (option + "firm b 0\nheld b", 4, 1), ("firm a 0\nheld x\nas due 0 1", 2, 1),
            (option + "held x\nas none\nas", 5, 1),
            (f"firm {GREATEST} 0\nfirm", 1, 0), (f"firm {GREATEST} 0\nfirm {GREATEST} 0", 1, 0),
            (f"firm {GREATEST[1:]} 0\nfirm y 0", 1, 1),
            (f"firm {GREATEST} 0\nheld x\nas none\nfirm x 0", 3, 0), (f"firm {GREATEST} 0\nheld {GREATEST}", 1, 1),
            ("firm b 0\nfirm a 0\nfirm", 1, 1), ("firm b 0\nfirm b 0", 1, 1), ("firm b 0\nfirm a", 1, 1),
        ):
            self.assertEqual(place_of(read_web, text), (line, column), text)

    def test_one_behind_the_other(self):
        text = f"firm {GREATEST[1:]} 0\nfirm {GREATEST} 0"
        self.assertEqual([firm[0] for firm in read_web(text)], [GREATEST[1:], GREATEST])

    def test_words_exchanged(self):
        chance = source(32)
        odd = ("", "firm", "held", "as", "none", "due", "sum", "0", "1", "2", "7", "a", "A", "1/2", "2/4", "-1",
               "none\nas", "\n")
        for _ in range(600):
            words = show_web(some_web(chance)).split(" ")
            place = chance.randrange(len(words))
            text = " ".join(words[:place] + [chance.choice(odd)] + words[place + chance.randint(0, 1):])
            found = place_of(read_web, text)
            if found is None:
                self.assertEqual(show_web(read_web(text)), text)
                continue
            self.assertEqual(place_of(read_web, text), found)
            self.check_ahead(text, *found)

    def check_ahead(self, text, line, column):
        """What stands ahead of a word that cannot stand is right: it ends too early there."""
        lines = text.split("\n")
        if line == len(lines):
            self.assertEqual((lines[-1][:5], column), ("held ", 0))
            return
        words = lines[line].split(" ")
        self.assertLessEqual(column, len(words))
        ahead = "\n".join(lines[:line] + [" ".join(words[:column])] if column else lines[:line])
        self.assertIn(place_of(read_web, ahead), (None, (line, column), (line + (column > 0), 0)))

    def test_any_values(self):
        chance = source(33)
        for _ in range(300):
            thing = exchanged_deep(chance, some_web(chance), ODD_VALUES)
            if not isinstance(thing, str):
                with self.assertRaises(Wrong):
                    read_web(thing)
        for text in ("a" * 3000, " " * 3000, "\n" * 3000, "~", "firm a 1" * 300, "\n ".join(["firm"] * 400)):
            with self.assertRaises(SoldError):
                read_web(text)


if __name__ == "__main__":
    unittest.main()
