"""Courses: how all that firms have goes on while their amounts rise.

A firm's CURVES BY AMOUNT tell for each holding what it is paid of all that the firm has, if it takes what claims most.
"""

from soldwhole.chosen import free_choices, most_curves
from soldwhole.curvebacks import by_pay
from soldwhole.curves import added_up, last_up_to, levels_of, rises_at
from soldwhole.flows import corner_above, less_slopes, moved, rooms, settled_had, slopes_of
from soldwhole.fractions import ONE, ZERO, added, least_of, lessened, over, times
from soldwhole.nets import Net
from soldwhole.solving import solved


def flows_by_amount(web):
    """The list of the FLOWS of all firms, their corners being those of all CURVES BY AMOUNT."""
    net, found = Net(web), []
    for name, picks in free_choices(web).items():
        curves, whole, (links, _) = net.payer(name, picks)
        found.append((links, levels_of([by_pay(whole, one) for one in curves])))
    return found


def parts_by_amount(web):
    """The dict from all holders to dicts: from firms to the CURVE of what of all that this one has they are paid."""
    found, curves = {}, most_curves(web)
    for name, _, holdings in web:
        whole, own = added_up(curves[name]), {}
        for (holder, _), one in zip(holdings, curves[name]):
            own.setdefault(holder, []).append(one)
        for holder, ones in own.items():
            found.setdefault(holder, {})[name] = by_pay(whole, added_up(ones))
    return found


def corners_passed(flows, amounts, more):
    """The list of couples (t, what all have) from 0 to 1, and between them where some firm passes a corner.

    What comes in at t is the amounts, and t times more.
    """
    places = list(range(len(flows)))
    t, had = ZERO, settled_had(flows, amounts)
    found = [(t, had)]
    while t != ONE:
        # Where a firm that has more comes to a corner, some firm passes one: else all would go on as before.
        way = solved(less_slopes(slopes_of(flows, had, rises_at), places), more)
        step = least_of([lessened(ONE, t)] + rooms(flows, had, way, corner_above))
        t, had = added(t, step), moved(had, way, step)
        found.append((t, had))
    return found


def part_way(low, high, part):
    """What lies so far on the straight way from low to high."""
    return added(low, times(part, lessened(high, low)))


def around(rows, t):
    """The two neighbours of at least two rows (t, ..) between which a t lies, and how far it lies between them."""
    place = min(last_up_to(rows, t), len(rows) - 2)
    low, high = rows[place], rows[place + 1]
    return low, high, over(lessened(t, low[0]), lessened(high[0], low[0]))
