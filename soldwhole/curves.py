"""Curves: functions of levels, made of straight pieces, that begin at 0 and never fall."""

from soldwhole.fractions import ZERO, added, ascending, compared, greatest_of, lessened, over, times


def curve(corners, slope):
    """The CURVE that goes straight from couple to couple, and on by the slope."""
    return drawn(corners, slope)


# Below and in other files a curve that is handed in is called curve: there this name makes one.
def drawn(corners, slope):
    """The CURVE through these couples: those on a straight stretch are left out."""
    rises = [steepness(low, high) for low, high in zip(corners, corners[1:])]
    rises.append(slope)
    kept = [(ZERO, ZERO)]
    for corner, before, behind in zip(corners[1:], rises, rises[1:]):
        if before != behind:
            kept.append((corner[0], corner[1]))
    return (tuple(kept), slope)


def steepness(low, high):
    """The slope from one couple to a later one."""
    return over(lessened(high[1], low[1]), lessened(high[0], low[0]))


def nothing():
    """The CURVE that pays 0 at each level."""
    return (((ZERO, ZERO),), ZERO)


def corners_many(curve):
    """How many corners it has but the first one."""
    return len(curve[0]) - 1


def levels_of(curves):
    """The ascending tuple of all levels of corners, 0 always among them."""
    return tuple(ascending([ZERO] + [corner[0] for one in curves for corner in one[0]]))


def is_bounded(curve):
    """Whether it stops rising."""
    return curve[1] == ZERO


def most_of(curve):
    """The greatest pay, None if there is none."""
    return curve[0][-1][1] if is_bounded(curve) else None


def last_up_to(rows, level):
    """The index of the last one of ascending rows (level, ..) that is not above a level; the first one is not."""
    low, high = 0, len(rows)
    while high - low > 1:
        middle = (low + high) // 2
        if compared(rows[middle][0], level) <= 0:
            low = middle
        else:
            high = middle
    return low


def place_at(curve, level):
    """The index of the last corner that is not above a level."""
    return last_up_to(curve[0], level)


def rise_behind(curve, place):
    """The slope just behind the corner with this index."""
    corners, slope = curve
    if place + 1 == len(corners):
        return slope
    return steepness(corners[place], corners[place + 1])


def pay_at(curve, level):
    """What it pays at a level."""
    place = place_at(curve, level)
    begin, pay = curve[0][place]
    if begin == level:
        return pay
    return added(pay, times(rise_behind(curve, place), lessened(level, begin)))


def rises_at(curve, level):
    """The slope just above a level."""
    return rise_behind(curve, place_at(curve, level))


def rose_to(curve, level):
    """The slope just below a level, 0 at the level 0."""
    if level == ZERO:
        return ZERO
    place = place_at(curve, level)
    if curve[0][place][0] == level:
        place -= 1
    return rise_behind(curve, place)


def bends_of(curve):
    """The list of couples (level, by how much steeper it goes on) of all corners."""
    rises = [rise_behind(curve, place) for place in range(len(curve[0]))]
    return [(corner[0], lessened(rise, before)) for corner, rise, before in zip(curve[0], rises, [ZERO] + rises)]


def added_up(curves):
    """The sum of CURVES."""
    bends = {ZERO: ZERO}
    for one in curves:
        for level, bend in bends_of(one):
            bends[level] = added(bends.get(level, ZERO), bend)
    corners = []
    last, pay, rise = ZERO, ZERO, ZERO
    for level in ascending(list(bends)):
        pay = added(pay, times(rise, lessened(level, last)))
        rise = added(rise, bends[level])
        last = level
        if level == ZERO or bends[level] != ZERO:
            corners.append((level, pay))
    return (tuple(corners), rise)


def side_by_side(one, other):
    """The list of tuples (level, pay of one, pay of other) at all corners of both, and where they cross.

    Between two neighbours, and behind the last one, it is always the same one that pays more.
    """
    rows = []
    for level in levels_of((one, other)):
        row = (level, pay_at(one, level), pay_at(other, level))
        if rows:
            rows.extend(met_between(rows[-1], row))
        rows.append(row)
    rows.extend(met_behind(rows[-1], one[1], other[1]))
    return rows


def met_between(low, high):
    """The list with the row at which two pays cross strictly between two rows, if they do."""
    before, behind = lessened(low[1], low[2]), lessened(high[1], high[2])
    if before[0] * behind[0] >= 0:
        return []
    part = over(before, lessened(before, behind))
    level = added(low[0], times(part, lessened(high[0], low[0])))
    pay = added(low[1], times(part, lessened(high[1], low[1])))
    return [(level, pay, pay)]


def met_behind(last, slope, rival):
    """The list with the row at which two pays cross behind a last row, rising by slope and rival, if they do."""
    before, closing = lessened(last[1], last[2]), lessened(rival, slope)
    if before[0] * closing[0] <= 0:
        return []
    further = over(before, closing)
    pay = added(last[1], times(slope, further))
    return [(added(last[0], further), pay, pay)]


def greatest(curves):
    """The CURVE with the greatest pay of all at each level, nothing() of none."""
    most = nothing()
    for one in curves:
        most = greater(most, one)
    return most


def greater(one, other):
    """The CURVE with the greater pay of two at each level."""
    corners = [(level, greatest_of((pay, rival))) for level, pay, rival in side_by_side(one, other)]
    # Behind the last row nothing crosses: so what pays more there, rises no less.
    return drawn(corners, greatest_of((one[1], other[1])))


def capped(curve, amount):
    """The CURVE with the lesser one of its pay and the amount at each level."""
    below = [corner for corner in curve[0] if compared(corner[1], amount) < 0]
    if not below:
        return nothing()
    rise = rise_behind(curve, len(below) - 1)
    if rise == ZERO:
        return curve
    level, pay = below[-1]
    full = added(level, over(lessened(amount, pay), rise))
    return drawn([*below, (full, amount)], ZERO)


def scaled(curve, factor):
    """The CURVE with factor times its pay at each level."""
    corners, slope = curve
    return drawn([(level, times(pay, factor)) for level, pay in corners], times(slope, factor))


def crossings(one, other):
    """The ascending tuple of all levels at which two CURVES pay alike, but not at all levels near."""
    rows = side_by_side(one, other)
    alike = [pay == rival for _, pay, rival in rows]
    # Of a stretch with both ends alike the inside is alike; behind the last row the slopes tell it.
    apart = [not (low and high) for low, high in zip(alike, alike[1:])]
    apart.append(one[1] != other[1])
    ahead = [False] + apart
    return tuple([row[0] for row, same, low, high in zip(rows, alike, ahead, apart) if same and (low or high)])
