"""What is a fraction, a curve, a claim, a web, and what is not."""

from math import gcd

from soldwhole.fractions import ZERO, compared, lessened, over

MOST_RANKS = 6
LONGEST_NAME = 12


def is_integer(thing):
    """Whether it is an integer; True and False are none."""
    return isinstance(thing, int) and not isinstance(thing, bool)


def is_fraction(thing):
    """Whether it is a FRACTION."""
    if not isinstance(thing, tuple) or len(thing) != 2:
        return False
    n, d = thing
    return is_integer(n) and is_integer(d) and d >= 1 and gcd(n, d) == 1


def is_amount(thing):
    """Whether it is a FRACTION from 0 on."""
    return is_fraction(thing) and thing[0] >= 0


def is_above_zero(thing):
    """Whether it is a FRACTION above 0."""
    return is_fraction(thing) and thing[0] > 0


def is_name(thing):
    """Whether it is a NAME."""
    if not isinstance(thing, str) or not 1 <= len(thing) <= LONGEST_NAME:
        return False
    return thing.isascii() and thing.isalpha() and thing.islower()


def is_ranks(thing):
    """Whether it is an integer from 0 to 6."""
    return is_integer(thing) and 0 <= thing <= MOST_RANKS


def is_curve(thing):
    """Whether it is a CURVE: a function that never falls, with no corner too many."""
    if not isinstance(thing, tuple) or len(thing) != 2:
        return False
    corners, slope = thing
    if not isinstance(corners, tuple) or not all([is_corner(one) for one in corners]):
        return False
    if corners[:1] != ((ZERO, ZERO),):
        return False
    stretches = list(zip(corners, corners[1:]))
    if not all([compared(low[0], high[0]) < 0 for low, high in stretches]):
        return False
    rises = [over(lessened(high[1], low[1]), lessened(high[0], low[0])) for low, high in stretches]
    rises.append(slope)
    return all([is_amount(rise) for rise in rises]) and all([low != high for low, high in zip(rises, rises[1:])])


def is_corner(thing):
    """Whether it is a couple of FRACTIONS."""
    return isinstance(thing, tuple) and len(thing) == 2 and is_fraction(thing[0]) and is_fraction(thing[1])


def claims_below(claim):
    """The tuple of the CLAIMS that stand in a CLAIM itself, not deeper."""
    if claim[0] == "capped":
        return (claim[1],)
    return claim[1] if claim[0] == "sum" else ()


def is_claim(ranks, thing):
    """Whether it is a CLAIM on a firm with so many RANKS; it may be deeper than Python calls itself."""
    ahead = [thing]
    while ahead:
        claim = ahead.pop()
        if not is_claim_but_within(ranks, claim):
            return False
        ahead.extend(claims_below(claim))
    return True


def is_claim_but_within(ranks, thing):
    """Whether it is a CLAIM, if what stands in it in the places of CLAIMS is."""
    if not isinstance(thing, tuple) or len(thing) == 0:
        return False
    word, parts = thing[0], thing[1:]
    if word == "none":
        return parts == ()
    if word == "shares":
        return len(parts) == 1 and is_above_zero(parts[0])
    if word == "sum":
        return len(parts) == 1 and isinstance(parts[0], tuple) and len(parts[0]) >= 2
    if word not in ("due", "option", "capped") or len(parts) != 2 or not is_above_zero(parts[1]):
        return False
    if word == "due":
        return is_integer(parts[0]) and 0 <= parts[0] < ranks
    return word == "capped" or is_above_zero(parts[0])


def is_holding(ranks, thing):
    """Whether it is a HOLDING of a firm with so many RANKS."""
    if not isinstance(thing, tuple) or len(thing) != 2:
        return False
    holder, options = thing
    if not is_name(holder) or not isinstance(options, tuple) or len(options) == 0:
        return False
    return all([is_claim(ranks, option) for option in options])


def is_firm(thing):
    """Whether it is a FIRM that does not hold itself."""
    if not isinstance(thing, tuple) or len(thing) != 3:
        return False
    name, ranks, holdings = thing
    if not is_name(name) or not is_ranks(ranks) or not isinstance(holdings, tuple):
        return False
    return all([is_holding(ranks, holding) and holding[0] != name for holding in holdings])


def is_web(thing):
    """Whether it is a WEB."""
    if not isinstance(thing, tuple) or not all([is_firm(firm) for firm in thing]):
        return False
    return all([low[0] < high[0] for low, high in zip(thing, thing[1:])])


def has_firms_as_keys(web, thing):
    """Whether it is a dict whose keys are just the names of all FIRMS."""
    return isinstance(thing, dict) and len(thing) == len(web) and all([firm[0] in thing for firm in web])


def has_entries(web, thing):
    """Whether it is a dict from the names of all FIRMS to tuples with an entry for each holding."""
    if not has_firms_as_keys(web, thing):
        return False
    return all([isinstance(thing[firm[0]], tuple) and len(thing[firm[0]]) == len(firm[2]) for firm in web])


def entries_told(web, thing):
    """The list of the tuples (holder, options, entry) for all holdings."""
    return [(*holding, entry) for firm in web for holding, entry in zip(firm[2], thing[firm[0]])]


def are_amounts(web, thing):
    """Whether it is AMOUNTS for a WEB."""
    return has_firms_as_keys(web, thing) and all([is_amount(thing[firm[0]]) for firm in web])


def are_choices(web, thing):
    """Whether it is CHOICES for a WEB."""
    if not has_entries(web, thing):
        return False
    names = {firm[0]: True for firm in web}
    return all([is_choice(holder in names, options, entry) for holder, options, entry in entries_told(web, thing)])


def is_choice(of_firm, options, thing):
    """Whether it is an entry of CHOICES for a firm's or a person's holding with these options."""
    if of_firm:
        return thing is None
    return is_integer(thing) and 0 <= thing < len(options)


def are_payments(web, thing):
    """Whether it is a dict from all firms to tuples with a FRACTION from 0 on for each holding."""
    return has_entries(web, thing) and all([is_amount(entry) for _, _, entry in entries_told(web, thing)])


def firm_of(web, name):
    """The FIRM with this name, one of the WEB's."""
    found = [firm for firm in web if firm[0] == name]
    return found[0]


def held_by(web, holder):
    """The ascending list of the tuples (name, index): the firms and indexes of this holder's holdings."""
    return [(name, index) for name, _, holdings in web for index, one in enumerate(holdings) if one[0] == holder]


def choosing_of(web, person):
    """Those of held_by that have more than one option."""
    return [(name, index) for name, index in held_by(web, person) if len(firm_of(web, name)[2][index][1]) > 1]
