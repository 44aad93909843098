"""Walks: what all firms have, and all persons are paid, while the amounts go straight from one to other."""

from soldwhole.chosen import most_curves
from soldwhole.claims import curve_of
from soldwhole.courses import around, corners_passed, flows_by_amount, part_way, parts_by_amount
from soldwhole.curves import added_up, crossings, greatest, pay_at, steepness
from soldwhole.curvebacks import level_for
from soldwhole.flows import corner_above, had_next
from soldwhole.forms import are_amounts, firm_of, is_amount
from soldwhole.fractions import ONE, ZERO, ascending, compared, greatest_of, lessened, over, total
from soldwhole.onefirm import level_of, payments
from soldwhole.signs import paid_to
from soldwhole.webs import firm_names

HALF = (1, 2)


def walk(web, one, other):
    """The WALK with STATIONS just where some firm passes a corner, and at both ends."""
    names = firm_names(web)
    more = [lessened(other[name], one[name]) for name in names]
    passed = corners_passed(flows_by_amount(web), [one[name] for name in names], more)
    return tuple([(t, dict(zip(names, had))) for t, had in passed])


def is_walk(web, one, other, thing):
    """Whether it is a WALK."""
    if not isinstance(thing, tuple) or not all([is_station(web, station) for station in thing]):
        return False
    moments = [t for t, _ in thing]
    if moments[:1] != [ZERO] or moments[-1] != ONE:
        return False
    if not all([compared(low, high) < 0 for low, high in zip(moments, moments[1:])]):
        return False
    flows, names = flows_by_amount(web), firm_names(web)
    rows = [[had[name] for name in names] for _, had in thing]
    amounts = [[part_way(one[name], other[name], t) for name in names] for t in moments]
    if not all([had_next(flows, come, had) == had for come, had in zip(amounts, rows)]):
        return False
    return all([no_corner_between(flows, low, high) for low, high in zip(rows, rows[1:])])


def is_station(web, thing):
    """Whether it is a couple of a FRACTION and a dict from all firms to FRACTIONS from 0 on."""
    return isinstance(thing, tuple) and len(thing) == 2 and is_amount(thing[0]) and are_amounts(web, thing[1])


def no_corner_between(flows, low, high):
    """Whether no firm has a corner strictly between what it has in two rows."""
    for (_, corners), less, more in zip(flows, low, high):
        corner = corner_above(corners, less)
        if corner is not None and compared(corner, more) < 0:
            return False
    return True


def had_on(walk, t):
    """The dict from all firms to what each HAS at t."""
    (_, less), (_, more), part = around(walk, t)
    return {name: part_way(less[name], more[name], part) for name in sorted(list(less))}


def paid_on(web, walk, t):
    """The dict from all persons to what they are PAID at t."""
    had, curves = had_on(walk, t), most_curves(web)
    return paid_to(web, {name: payments(curves[name], had[name]) for name in had})


def pay_line(web, walk, person):
    """The tuple of couples (t, pay) between which a person's pay goes straight."""
    return line_by(parts_by_amount(web).get(person, {}), walk)


def line_by(parts, walk):
    """The pay line of who is paid these parts of what firms have: a dict from firms to CURVES."""
    line = [(t, total([pay_at(parts[name], had[name]) for name in parts])) for t, had in walk]
    rises = [steepness(low, high) for low, high in zip(line, line[1:])]
    bends = [couple for couple, before, behind in zip(line[1:], rises, rises[1:]) if before != behind]
    return (line[0], *bends, line[-1])


def most_at(curves, level):
    """The ascending tuple of the indexes of those CURVES that pay most at a level."""
    pays = [pay_at(one, level) for one in curves]
    most = greatest_of(pays)
    return tuple([index for index, pay in enumerate(pays) if pay == most])


def most_on(web, walk, t):
    """The dict from firms to tuples: for each holding the indexes of the options that claim most at t."""
    had, curves = had_on(walk, t), most_curves(web)
    levels = {name: level_of(curves[name], had[name]) for name in had}
    return {
        name: tuple([
            most_at([curve_of(ranks, option) for option in options], levels[name]) for _, options in holdings
        ])
        for name, ranks, holdings in web
    }


def changes(web, walk, firm, index):
    """The ascending tuple of all t at which other options of a holding claim most than just below, or just above."""
    _, ranks, holdings = firm_of(web, firm)
    curves = [curve_of(ranks, option) for option in holdings[index][1]]
    whole = added_up(most_curves(web)[firm])
    most = greatest(curves)
    turns = [pay_at(whole, level) for one in curves for level in crossings(one, most)]
    moments = moments_at(walk, firm, ascending(turns))
    between = [part_way(low, high, HALF) for low, high in zip(moments, moments[1:])]
    now = [most_at(curves, level_for(whole, had_on(walk, t)[firm])) for t in moments]
    inside = [most_at(curves, level_for(whole, had_on(walk, t)[firm])) for t in between]
    aside = list(zip(now[:1] + inside, inside + now[-1:]))
    return tuple([t for t, here, (before, behind) in zip(moments, now, aside) if here != before or here != behind])


def moments_at(walk, firm, amounts):
    """The ascending list of 0 and 1 and the t at which a firm comes to HAVE one of these amounts, or leaves it."""
    found = [ZERO, ONE]
    for (begin, low), (end, high) in zip(walk, walk[1:]):
        less, more = low[firm], high[firm]
        # Where it stays at an amount, it has come to it just before, or at 0, and leaves it just behind, or never.
        if less != more:
            within = [one for one in amounts if compared(less, one) <= 0 and compared(one, more) <= 0]
            parts = [over(lessened(one, less), lessened(more, less)) for one in within]
            found.extend([part_way(begin, end, part) for part in parts])
    return ascending(found)
