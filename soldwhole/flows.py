"""Flows: what of all that firms have comes to other firms, and what all have then.

Firms stand in lists here, by their places in the web. A FLOW of a firm is a tuple (links, corners): links the list of
the couples (place of another firm, CURVE that tells at each amount that the firm has what of it the other one gets),
corners the ascending tuple of all amounts at which one of these curves bends, 0 among them.
"""

from soldwhole.curvebacks import by_pay
from soldwhole.curves import added_up, levels_of, pay_at, rises_at, rose_to
from soldwhole.fractions import ONE, ZERO, added, compared, greatest_of, least_of, lessened, over, times, total
from soldwhole.solving import solved

MOST_TRIES = 10
HALF = (1, 2)


def flow_of(holders, curves, whole, places):
    """The FLOW of a firm whose holdings have these holders and CURVES, whole their sum; places tells those of firms."""
    taken = {}
    for holder, one in zip(holders, curves):
        if holder in places:
            taken.setdefault(places[holder], []).append(one)
    links = [(place, by_pay(whole, added_up(taken[place]))) for place in sorted(list(taken))]
    return (links, levels_of([link[1] for link in links]))


def had_next(flows, amounts, had):
    """What each firm has of its amount, and of what firms pay that have so much."""
    found = list(amounts)
    for (links, _), much in zip(flows, had):
        for place, one in links:
            found[place] = added(found[place], pay_at(one, much))
    return found


def slopes_of(flows, had, slope_at):
    """The list of rows: in each, by the place of the payer, what a firm gets of each 1 more that the payer has.

    slope_at is rises_at for what is had above had, rose_to for what is had below it.
    """
    rows = [[ZERO] * len(flows) for _ in flows]
    for payer, ((links, _), much) in enumerate(zip(flows, had)):
        for place, one in links:
            rows[place][payer] = slope_at(one, much)
    return rows


def less_slopes(slopes, places):
    """The rows by which what is had at some places hangs on what is put in from outside."""
    return [
        tuple([lessened(ONE if place == payer else ZERO, slopes[place][payer]) for payer in places])
        for place in places
    ]


def lot_in(slopes):
    """The list of the places of firms that pay all to one another alone, none of them without the others."""
    places = list(range(len(slopes)))
    kept = [payer for payer in places if total([row[payer] for row in slopes]) == ONE]
    many = len(places)
    while len(kept) < many:
        many = len(kept)
        kept = [payer for payer in kept if all([place in kept for place in takers(slopes, payer)])]
    # Those that come to the fewest come to one another: each of these comes to no others, and to no fewer.
    return min([come_to(slopes, payer) for payer in kept], key=len, default=[])


def takers(slopes, payer):
    """The list of the places of firms to which a payer pays."""
    return [place for place, row in enumerate(slopes) if row[payer] != ZERO]


def come_to(slopes, payer):
    """The ascending list of the places of firms to which what a payer pays may come in the end."""
    found = takers(slopes, payer)
    ahead = list(found)
    while ahead:
        payer = ahead.pop()
        further = [place for place in takers(slopes, payer) if place not in found]
        found.extend(further)
        ahead.extend(further)
    return sorted(found)


def round_in(slopes, lot):
    """What goes round in a lot for each 1 that its first firm has, at all places."""
    rows = less_slopes(slopes, lot)
    # As nothing leaves the lot, one row hangs on the others: in its stead the share of the first firm is set.
    rows[0] = tuple([ONE if place == lot[0] else ZERO for place in lot])
    shares = solved(rows, tuple([ONE] + [ZERO] * (len(lot) - 1)))
    told = {place: share for place, share in zip(lot, shares)}
    return [told.get(place, ZERO) for place in range(len(slopes))]


def many_up_to(corners, much):
    """How many of the ascending corners are not above an amount."""
    low, high = 0, len(corners)
    while low < high:
        middle = (low + high) // 2
        if compared(corners[middle], much) <= 0:
            low = middle + 1
        else:
            high = middle
    return low


def corner_above(corners, much):
    """The least corner above an amount, None if there is none."""
    place = many_up_to(corners, much)
    return corners[place] if place < len(corners) else None


def corner_below(corners, much):
    """The greatest corner below an amount, None if there is none."""
    place = many_up_to(corners, much) - 1
    if place >= 0 and corners[place] == much:
        place -= 1
    return corners[place] if place >= 0 else None


def rooms(flows, had, way, corner_at):
    """The list of how many times each firm can go on by way until it comes to a corner."""
    found = []
    for (_, corners), much, step in zip(flows, had, way):
        corner = corner_at(corners, much) if step != ZERO else None
        if corner is not None:
            found.append(over(lessened(corner, much), step))
    return found


def moved(had, way, factor):
    """What is had behind so many times a way."""
    return [added(much, times(step, factor)) for much, step in zip(had, way)]


def led_round(flows, had, slope_at, corner_at, nearest):
    """What is had behind all that goes round in lots, as far as it does.

    slope_at, corner_at and nearest tell the way: upwards rises_at, corner_above and least_of.
    """
    slopes = slopes_of(flows, had, slope_at)
    lot = lot_in(slopes)
    while lot:
        way = round_in(slopes, lot)
        had = moved(had, way, nearest(rooms(flows, had, way, corner_at)))
        slopes = slopes_of(flows, had, slope_at)
        lot = lot_in(slopes)
    return had


def raised(flows, had):
    """The most that can be had with the same gaps: of something that comes of itself the greatest such."""
    return led_round(flows, had, rises_at, corner_above, least_of)


def lowered(flows, had):
    """The least that can be had, of something that comes of itself."""
    return led_round(flows, had, rose_to, corner_below, greatest_of)


def settled_had(flows, amounts):
    """What all have, such that it comes of itself."""
    had = list(amounts)
    found = met_near(flows, amounts, had)
    while found is None:
        # More that goes round in a lot comes of itself; with no lot left, what comes in beyond it flows out at last.
        had = next_had(flows, amounts, raised(flows, had))
        found = met_near(flows, amounts, had)
    return found


def met_near(flows, amounts, had):
    """What all have, such that it comes of itself, sought from had on, None if it is not come to in a few tries."""
    for _ in range(MOST_TRIES):
        ahead = had_next(flows, amounts, had)
        if ahead == had:
            return had
        way = way_to(flows, had, ahead)
        if way is None:
            return None
        had = [greatest_of((amount, added(much, step))) for amount, much, step in zip(amounts, had, way)]
    return None


def way_to(flows, had, ahead):
    """How much more each has if what is paid goes on by the slopes above had, None if there is no such, or several.

    ahead is what comes next of had.
    """
    places = list(range(len(flows)))
    gaps = [lessened(high, low) for high, low in zip(ahead, had)]
    return solved(less_slopes(slopes_of(flows, had, rises_at), places), gaps)


def next_had(flows, amounts, had):
    """What all have a step further up, none of them more than comes of it, as it is of had; no lot is in it."""
    way = way_to(flows, had, had_next(flows, amounts, had))
    room = least_of([ONE] + rooms(flows, had, way, corner_above))
    factor = ONE
    # Up to the next corner nothing can be too much; each one is passed once, so it ends. Further is tried first.
    while compared(factor, room) > 0:
        further = moved(had, way, factor)
        if is_covered(further, had_next(flows, amounts, further)):
            return further
        factor = times(factor, HALF)
    return moved(had, way, room)


def is_covered(had, ahead):
    """Whether nowhere more is had than comes of it."""
    return all([compared(low, high) <= 0 for low, high in zip(had, ahead)])
