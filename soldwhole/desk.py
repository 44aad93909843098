"""The desk: commands, a line each, by which a ledger is written and asked what everybody is paid."""

from soldwhole.chosen import open_holdings
from soldwhole.deeds import deed_of, deed_text
from soldwhole.errors import Circle, NoCommand, NoDeed, NoText, NotFounded, Wrong
from soldwhole.forms import is_amount, is_name
from soldwhole.fractions import ZERO, fraction_in, fraction_text, integer_in
from soldwhole.ledgers import first_wrong, web_of
from soldwhole.outcomes import most_choices, outcome
from soldwhole.papertexts import show_web
from soldwhole.signs import paid_to
from soldwhole.webs import persons_of

DAY_DIGITS = 9

# What stands behind the first word of a command.
COMMAND_PARTS = {
    "enter": ("day", "deed"),
    "amount": ("name", "amount"),
    "undo": (),
    "entries": (),
    "wrong": (),
    "web": ("day",),
    "paid": ("day",),
    "level": ("day", "name"),
    "choose": ("day", "name"),
}


def command_in(line):
    """The tuple of the first word of a COMMAND and what those behind it show, None if the line has not this form."""
    word, *texts = line.split(" ")
    if word not in COMMAND_PARTS:
        return None
    if word == "enter":
        texts = [*texts[:1], " ".join(texts[1:])]
    kinds = COMMAND_PARTS[word]
    if len(texts) != len(kinds):
        return None
    parts = [part_in(kind, text) for kind, text in zip(kinds, texts)]
    return None if None in parts else (word, *parts)


def part_in(kind, text):
    """What a text shows in a COMMAND, None if it shows nothing of this kind."""
    if kind == "day":
        return day_in(text)
    if kind == "name":
        return text if is_name(text) else None
    if kind == "amount":
        amount = fraction_in(text)
        return amount if is_amount(amount) else None
    return deed_in(text)


def day_in(text):
    """The DAY of at most nine digits that a text shows, None if it shows none."""
    return integer_in(text) if len(text.removeprefix("-")) <= DAY_DIGITS else None


def deed_in(text):
    """The DEED that a text shows, None if it shows none."""
    try:
        return deed_of(text)
    except NoText:
        return None


def told_web(web, amounts):
    """The lines of the text of a WEB."""
    return show_web(web).split("\n") if web else []


def told_paid(web, amounts):
    """For each PERSON of a WEB the NAME and what it is PAID."""
    _, payments = outcome(web, amounts)
    return [f"{person} {fraction_text(pay)}" for person, pay in paid_to(web, payments).items()]


def told_level(web, amounts, firm):
    """The level of a firm, None if it is none of the WEB."""
    levels, _ = outcome(web, amounts)
    return [fraction_text(levels[firm])] if firm in levels else None


def told_choices(web, amounts, person):
    """For each holding of a PERSON with more than one option which one claims most, None if it is none of the WEB."""
    choices = most_choices(web, amounts)
    if person not in persons_of(web):
        return None
    return [f"{firm} {index} {choices[firm][index]}" for firm, index in open_holdings(web, person)]


# What is asked of the WEB of a day.
ANSWERS = {"web": told_web, "paid": told_paid, "level": told_level, "choose": told_choices}


def answer_of_day(entries, told, word, day, *names):
    """The answer to what is asked of the WEB of a day, with these amounts told; None if there is no such COMMAND."""
    answer = ANSWERS[word]
    try:
        web = web_of(entries, day)
        amounts = {name: told.get(name, ZERO) for name, _, _ in web}
        return answer(web, amounts, *names)
    except NoDeed as undone:
        return [f"wrong {undone.index}"]
    except NotFounded as lost:
        return [f"not founded {lost.name}"]
    except Circle as ring:
        return [" ".join(["circle", *ring.names])]


class Desk:
    """The ENTRIES, the amounts told, and what has been entered or told and can be taken back."""

    def __init__(self):
        self.entered = []
        self.told = {}
        # For each enter None, for each amount the firm and what was told of it ahead, None if nothing was.
        self.past = []

    def __eq__(self, other):
        return isinstance(other, Desk) and self.entered == other.entered and self.told == other.told

    def execute(self, line):
        """Do one COMMAND; the list of strings that it answers."""
        if not isinstance(line, str):
            raise Wrong(0)
        command = command_in(line)
        answer = None if command is None else self.done(command)
        if answer is None:
            raise NoCommand(line)
        return answer

    def done(self, command):
        """The answer to what command_in tells, None if there is no such COMMAND."""
        word, *parts = command
        if word == "enter":
            return self.enter(*parts)
        if word == "amount":
            return self.put_amount(*parts)
        if word == "undo":
            return self.undo()
        if word == "entries":
            return [f"{day} {deed_text(deed)}" for day, deed in self.entered]
        entries = self.told_entries()
        if word == "wrong":
            wrong = first_wrong(entries)
            return ["none" if wrong is None else str(wrong)]
        return answer_of_day(entries, self.told, word, *parts)

    def enter(self, day, deed):
        """Put an ENTRY behind the others."""
        self.entered.append((day, deed))
        self.past.append(None)
        return [str(len(self.entered) - 1)]

    def put_amount(self, firm, amount):
        """Let a firm have this amount from here on."""
        self.past.append((firm, self.told.get(firm)))
        self.told[firm] = amount
        return ["done"]

    def undo(self):
        """Take back the last enter or amount, if there is one."""
        if not self.past:
            return ["nothing"]
        last = self.past.pop()
        if last is None:
            self.entered.pop()
            return ["done"]
        firm, before = last
        if before is None:
            self.told.pop(firm)
        else:
            self.told[firm] = before
        return ["done"]

    def told_entries(self):
        """The ENTRIES."""
        return tuple(self.entered)

    def told_amounts(self):
        """The dict from NAMES to the amounts told."""
        return {name: self.told[name] for name in sorted(list(self.told))}

    def twin(self):
        """An independent one in the same state, with what can be taken back."""
        other = Desk()
        other.entered, other.told, other.past = list(self.entered), dict(self.told), list(self.past)
        return other
