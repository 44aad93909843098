"""Curves led back: from what is paid to the level, and from what one pays to what another one pays."""

from soldwhole.curves import drawn, levels_of, pay_at, rise_behind, side_by_side
from soldwhole.fractions import ZERO, added, compared, lessened, over


def level_for(curve, pay):
    """The least level at which a CURVE pays just this, None if it never does."""
    if pay == ZERO:
        return ZERO
    place = last_below(curve, pay)
    level, reached = curve[0][place]
    rise = rise_behind(curve, place)
    if rise == ZERO:
        return None
    return added(level, over(lessened(pay, reached), rise))


def last_below(curve, pay):
    """The index of the last corner that pays less than pay, which is above 0."""
    corners = curve[0]
    low, high = 0, len(corners)
    while high - low > 1:
        middle = (low + high) // 2
        if compared(corners[middle][1], pay) < 0:
            low = middle
        else:
            high = middle
    return low


def by_pay(curve, other):
    """The CURVE that leads from what curve pays to what other pays, None if other rises where curve does not."""
    corners = [(ZERO, ZERO)]
    for level in levels_of((curve, other)):
        corner = (pay_at(curve, level), pay_at(other, level))
        if corner[0] != corners[-1][0]:
            corners.append(corner)
        elif corner[1] != corners[-1][1]:
            return None
    if curve[1] != ZERO:
        return drawn(corners, over(other[1], curve[1]))
    return drawn(corners, ZERO) if other[1] == ZERO else None


def is_under(one, other):
    """Whether one pays at no level more than other."""
    return first_over(one, other) is None


def first_over(one, other):
    """The greatest level up to which one pays nowhere more than other, None if it never does."""
    ahead = ZERO
    for level, pay, rival in side_by_side(one, other):
        if compared(pay, rival) > 0:
            return ahead
        ahead = level
    return ahead if compared(one[1], other[1]) > 0 else None


def same_up_to(one, other):
    """The greatest level up to which both pay alike, None if they are the same."""
    if one == other:
        return None
    ahead = ZERO
    for level, pay, rival in side_by_side(one, other):
        if pay != rival:
            return ahead
        ahead = level
    return ahead
