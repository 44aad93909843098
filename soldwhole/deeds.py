"""Deeds: what they are, and their texts."""

from soldwhole.errors import NoText, Wrong
from soldwhole.forms import MOST_RANKS, is_above_zero, is_claim, is_integer, is_name, is_ranks
from soldwhole.fractions import fraction_in, fraction_text, integer_in, integer_text
from soldwhole.papertexts import check_end, claim_from, show_claim, word_at

MOST_OPTIONS = 4
MOST_EVERY = 3000
MOST_TIMES = 60

# What stands behind the first word of a deed.
DEED_PARTS = {
    "firm": ("name", "ranks"),
    "sort": ("name", "name", "options"),
    "give": ("name", "name", "name", "count"),
    "hand": ("name", "name", "name", "name", "count"),
    "back": ("name", "name", "name", "count"),
    "split": ("name", "name", "count"),
    "grant": ("name", "name", "name", "count", "every", "times"),
    "leave": ("name", "name"),
    "strike": ("index",),
}


def is_deed(thing):
    """Whether it is a DEED."""
    if not isinstance(thing, tuple) or len(thing) == 0 or not isinstance(thing[0], str):
        return False
    if thing[0] not in DEED_PARTS:
        return False
    kinds = DEED_PARTS[thing[0]]
    return len(thing) == 1 + len(kinds) and all([is_part(kind, part) for kind, part in zip(kinds, thing[1:])])


def is_part(kind, thing):
    """Whether it is what stands in a DEED under this word."""
    if kind == "name":
        return is_name(thing)
    if kind == "count":
        return is_above_zero(thing)
    if kind == "ranks":
        return is_ranks(thing)
    if kind == "options":
        return are_options(thing)
    if not is_integer(thing):
        return False
    if kind == "index":
        return thing >= 0
    return 1 <= thing <= (MOST_EVERY if kind == "every" else MOST_TIMES)


def are_options(thing):
    """Whether it is a tuple of 1 to 4 CLAIMS on a firm with six RANKS."""
    if not isinstance(thing, tuple) or not 1 <= len(thing) <= MOST_OPTIONS:
        return False
    return all([is_claim(MOST_RANKS, option) for option in thing])


def are_entries(thing):
    """Whether it is ENTRIES."""
    return isinstance(thing, tuple) and all([is_entry(entry) for entry in thing])


def is_entry(thing):
    """Whether it is an ENTRY."""
    return isinstance(thing, tuple) and len(thing) == 2 and is_integer(thing[0]) and is_deed(thing[1])


def deed_text(deed):
    """The words of a DEED, with one blank between two."""
    texts = [part_text(kind, part) for kind, part in zip(DEED_PARTS[deed[0]], deed[1:])]
    return " ".join([deed[0], *texts])


def part_text(kind, part):
    """The words of what stands in a DEED under this word."""
    if kind == "name":
        return part
    if kind == "count":
        return fraction_text(part)
    if kind == "options":
        return " or ".join([show_claim(option) for option in part])
    return integer_text(part)


def deed_of(text):
    """The DEED that a string shows."""
    if not isinstance(text, str):
        raise Wrong(0)
    words = text.split(" ")
    if words[0] not in DEED_PARTS:
        raise NoText(0, 0)
    parts, at = [words[0]], 1
    for kind in DEED_PARTS[words[0]]:
        part, at = part_from(kind, words, at)
        parts.append(part)
    check_end(words, at, 0)
    return tuple(parts)


def part_from(kind, words, at):
    """What the words from an index on show of what stands in a DEED under this word, and the index behind them."""
    if kind == "options":
        return options_from(words, at)
    word = word_at(words, at, 0)
    part = part_read(kind, word)
    if not is_part(kind, part):
        raise NoText(0, at)
    return part, at + 1


def part_read(kind, word):
    """What a word shows, None if it shows nothing of this kind."""
    if kind == "name":
        return word
    return fraction_in(word) if kind == "count" else integer_in(word)


def options_from(words, at):
    """The tuple of the CLAIMS that the words from an index on show, and the index behind them."""
    claim, at = claim_from(MOST_RANKS, words, at, 0)
    options = [claim]
    while at < len(words) and words[at] == "or" and len(options) < MOST_OPTIONS:
        claim, at = claim_from(MOST_RANKS, words, at + 1, 0)
        options.append(claim)
    return tuple(options), at
