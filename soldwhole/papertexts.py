"""Texts of claims and webs: how they are shown, and how they are read."""

from soldwhole.claims import claims_inside
from soldwhole.errors import NoText, Wrong
from soldwhole.forms import LONGEST_NAME, is_above_zero, is_name, is_ranks
from soldwhole.fractions import fraction_in, fraction_text, integer_in, integer_text

# What stands behind the first word of a claim, ahead of the claims in it.
CLAIM_WORDS = {
    "none": (),
    "due": ("rank", "amount"),
    "shares": ("amount",),
    "option": ("amount", "amount"),
    "capped": ("amount",),
    "sum": ("many",),
}

# Which first words of lines may stand behind which; nothing stands ahead of the first line.
WORDS_BEHIND = {"": ("firm",), "firm": ("firm", "held"), "held": ("as",), "as": ("firm", "held", "as")}


def show_claim(claim):
    """The words of a CLAIM, with one blank between two."""
    return " ".join([head_text(part) for part in claims_inside(claim)])


def head_text(claim):
    """The words of a CLAIM ahead of those of the claims in it."""
    if claim[0] == "due":
        return f"due {integer_text(claim[1])} {fraction_text(claim[2])}"
    if claim[0] == "capped":
        return f"capped {fraction_text(claim[2])}"
    if claim[0] == "sum":
        return f"sum {len(claim[1])}"
    return " ".join([claim[0], *[fraction_text(part) for part in claim[1:]]])


def show_web(web):
    """The text of a WEB."""
    lines = []
    for name, ranks, holdings in web:
        lines.append(f"firm {name} {ranks}")
        for holder, options in holdings:
            lines.append(f"held {holder}")
            lines.extend([f"as {show_claim(option)}" for option in options])
    return "\n".join(lines)


def word_at(words, at, line):
    """The word with this index; that there is none is told with the line."""
    if at >= len(words):
        raise NoText(line, len(words))
    return words[at]


def check_end(words, at, line):
    """Raise NoText if a word stands at this index, where none can."""
    if at < len(words):
        raise NoText(line, at)


def read_claim(ranks, text):
    """The CLAIM on a firm with these RANKS that a string shows."""
    if not is_ranks(ranks):
        raise Wrong(0)
    if not isinstance(text, str):
        raise Wrong(1)
    words = text.split(" ")
    claim, at = claim_from(ranks, words, 0, 0)
    check_end(words, at, 0)
    return claim


def claim_from(ranks, words, at, line):
    """The CLAIM that is shown by the words from an index on, and the index behind them."""
    heads, lacking = [], 1
    while lacking > 0:
        head = head_from(ranks, words, at, line)
        heads.append(head)
        at += len(head)
        lacking += many_below(head) - 1
    return built(heads), at


def head_from(ranks, words, at, line):
    """The tuple of what the words of a claim show ahead of those of the claims in it."""
    word = word_at(words, at, line)
    if word not in CLAIM_WORDS or (word == "due" and ranks == 0):
        raise NoText(line, at)
    found = [word]
    for place, kind in enumerate(CLAIM_WORDS[word]):
        part = part_read(ranks, kind, word_at(words, at + 1 + place, line))
        if part is None:
            raise NoText(line, at + 1 + place)
        found.append(part)
    return tuple(found)


def part_read(ranks, kind, word):
    """The amount, the rank or how many claims a word shows, None if it shows none."""
    if kind == "amount":
        amount = fraction_in(word)
        return amount if is_above_zero(amount) else None
    n = integer_in(word)
    if n is None:
        return None
    fits = n >= 2 if kind == "many" else 0 <= n < ranks
    return n if fits else None


def many_below(head):
    """How many claims stand behind what head_from tells, in its claim."""
    if head[0] == "sum":
        return head[1]
    return 1 if head[0] == "capped" else 0


def built(heads):
    """The CLAIM of what head_from tells of all its parts, in their order."""
    done = []
    for head in reversed(heads):
        if head[0] == "capped":
            done.append(("capped", done.pop(), head[1]))
        elif head[0] == "sum":
            parts = [done.pop() for _ in range(head[1])]
            done.append(("sum", tuple(parts)))
        else:
            done.append(head)
    return done[0]


def read_web(text):
    """The WEB that a string shows."""
    if not isinstance(text, str):
        raise Wrong(0)
    if text == "":
        return ()
    lines = text.split("\n")
    firms = []
    for line, row in enumerate(lines):
        read_line(firms, row.split(" "), line)
    if last_word(firms) == "held":
        raise NoText(len(lines), 0)
    return tuple([firm_built(*firm) for firm in firms])


def firm_built(name, ranks, holdings):
    """The FIRM of what read_line has put together."""
    return (name, ranks, tuple([(holder, tuple(options)) for holder, options in holdings]))


def last_word(firms):
    """The first word of the line that was read last, "" if there was none."""
    if not firms:
        return ""
    holdings = firms[-1][2]
    if not holdings:
        return "firm"
    return "as" if holdings[-1][1] else "held"


def read_line(firms, words, line):
    """Put what a line shows to the list of firms: lists of name, ranks, and a list of lists of holder and options."""
    word = words[0]
    if word not in WORDS_BEHIND[last_word(firms)]:
        raise NoText(line, 0)
    if word == "firm":
        firms.append(firm_read(firms, words, line))
    elif word == "held":
        firms[-1][2].append(holding_read(firms[-1][0], words, line))
    else:
        claim, at = claim_from(firms[-1][1], words, 1, line)
        check_end(words, at, line)
        firms[-1][2][-1][1].append(claim)


def firm_read(firms, words, line):
    """What a line shows that begins with firm."""
    ahead = firms[-1][0] if firms else ""
    if ahead == "z" * LONGEST_NAME:
        raise NoText(line, 0)
    name = word_at(words, 1, line)
    if not is_name(name) or name <= ahead:
        raise NoText(line, 1)
    ranks = integer_in(word_at(words, 2, line))
    if not is_ranks(ranks):
        raise NoText(line, 2)
    check_end(words, 3, line)
    return [name, ranks, []]


def holding_read(firm, words, line):
    """What a line shows of a holding of the firm with this name."""
    holder = word_at(words, 1, line)
    if not is_name(holder) or holder == firm:
        raise NoText(line, 1)
    check_end(words, 2, line)
    return [holder, []]
