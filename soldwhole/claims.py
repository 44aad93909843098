"""Claims: their curves, what stands in them, and their tidy forms."""

from soldwhole.curves import added_up, capped, drawn, greatest, nothing
from soldwhole.forms import claims_below
from soldwhole.fractions import ONE, ZERO, added, ascending, compared, least_of, times, total


def claims_inside(claim):
    """The list of a CLAIM and all that stand in it, each ahead of what stands in it, otherwise in order."""
    found, ahead = [], [claim]
    while ahead:
        part = ahead.pop()
        found.append(part)
        ahead.extend(claims_below(part)[::-1])
    return found


def folded(claim, plain, cap, together):
    """What comes of a CLAIM, reckoned from within.

    plain(part) comes of one that has no others in it, cap(inner, amount) of a capped one, together(parts) of a sum.
    """
    # It does not call itself, as claims that are read may be deeper than Python calls.
    done = []
    for part in reversed(claims_inside(claim)):
        if part[0] == "capped":
            done.append(cap(done.pop(), part[2]))
        elif part[0] == "sum":
            parts = [done.pop() for _ in part[1]]
            done.append(together(parts))
        else:
            done.append(plain(part))
    return done[0]


def curve_of(ranks, claim):
    """The CURVE of a CLAIM on a firm with so many RANKS."""
    return folded(claim, lambda part: plain_curve(ranks, part), capped, added_up)


def plain_curve(ranks, claim):
    """The CURVE of a CLAIM with no others in it."""
    if claim[0] == "none":
        return nothing()
    if claim[0] == "due":
        begin = (claim[1], 1)
        return risen_from(begin, [(added(begin, ONE), claim[2])], ZERO)
    if claim[0] == "shares":
        return risen_from((ranks, 1), [], claim[1])
    return risen_from(added((ranks, 1), claim[2]), [], claim[1])


def risen_from(begin, corners, slope):
    """The CURVE that pays nothing up to the level begin, and goes on from corner to corner, and by the slope."""
    ahead = [(ZERO, ZERO)]
    if begin != ZERO:
        ahead.append((begin, ZERO))
    return drawn(ahead + corners, slope)


def options_curve(ranks, options):
    """The GREATEST of the CURVES of at least one CLAIM."""
    return greatest([curve_of(ranks, option) for option in options])


def has_due(claim):
    """Whether it is a due, or one stands in it."""
    return any([part[0] == "due" for part in claims_inside(claim)])


def ranks_needed(claim):
    """The least RANKS of which it is a CLAIM."""
    return max([part[1] + 1 for part in claims_inside(claim) if part[0] == "due"], default=0)


def claims_in(claim):
    """How many CLAIMS it is made of."""
    return len(claims_inside(claim))


def scaled_claim(claim, factor):
    """The CLAIM with each amount and each count times factor."""
    return folded(
        claim,
        lambda part: scaled_plain(part, factor),
        lambda inner, amount: ("capped", inner, times(amount, factor)),
        lambda parts: ("sum", tuple(parts)),
    )


def scaled_plain(claim, factor):
    """The same of a CLAIM with no others in it."""
    if claim[0] == "none":
        return claim
    if claim[0] == "due":
        return ("due", claim[1], times(claim[2], factor))
    return (claim[0], times(claim[1], factor), *claim[2:])


def tidied(claim):
    """The tidy CLAIM with the same CURVE."""
    return folded(claim, lambda part: part, tidied_cap, tidied_sum)


def tidied_cap(inner, amount):
    """The tidy CLAIM of a tidy one capped at an amount."""
    if inner[0] == "none":
        return inner
    if inner[0] == "capped":
        return ("capped", inner[1], least_of((inner[2], amount)))
    if inner[0] == "due" and compared(inner[2], amount) <= 0:
        return inner
    return ("capped", inner, amount)


def tidied_sum(claims):
    """The tidy CLAIM of the sum of tidy ones."""
    opened = []
    for claim in claims:
        opened.extend(claims_below(claim) if claim[0] == "sum" else [claim])
    caps = sorted([claim for claim in opened if claim[0] == "capped"])
    parts = [*tidied_dues(opened), *tidied_shares(opened), *tidied_options(opened), *caps]
    if not parts:
        return ("none",)
    return parts[0] if len(parts) == 1 else ("sum", tuple(parts))


def tidied_dues(claims):
    """The list of a due for each rank that dues among the CLAIMS have, by rank."""
    amounts = {}
    for claim in claims:
        if claim[0] == "due":
            amounts[claim[1]] = added(amounts.get(claim[1], ZERO), claim[2])
    return [("due", rank, amounts[rank]) for rank in sorted(list(amounts))]


def tidied_shares(claims):
    """The list of all shares among the CLAIMS as one, if there are any."""
    count = total([claim[1] for claim in claims if claim[0] == "shares"])
    return [] if count == ZERO else [("shares", count)]


def tidied_options(claims):
    """The list of an option for each price that options among the CLAIMS have, by price."""
    counts = {}
    for claim in claims:
        if claim[0] == "option":
            counts[claim[2]] = added(counts.get(claim[2], ZERO), claim[1])
    return [("option", counts[price], price) for price in ascending(list(counts))]
