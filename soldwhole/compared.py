"""Two webs compared: where a person is paid more by one than by the other, and up to where all are paid alike."""

from soldwhole.courses import around, part_way, parts_by_amount
from soldwhole.curvebacks import same_up_to
from soldwhole.curves import nothing, steepness
from soldwhole.fractions import ZERO, ascending, least_of, lessened, over
from soldwhole.walks import line_by, pay_line, walk
from soldwhole.webs import persons_of


def pay_on(line, t):
    """What a line of couples (t, pay) comes to at t."""
    (_, low), (_, high), part = around(line, t)
    return part_way(low, high, part)


def gaps_of(line, rival):
    """The list of couples (t, by how much rival is higher) at all t at which a line bends, or they cross."""
    found = []
    for t in ascending([couple[0] for one in (line, rival) for couple in one]):
        gap = lessened(pay_on(rival, t), pay_on(line, t))
        if found and found[-1][1][0] * gap[0] < 0:
            begin, before = found[-1]
            found.append((part_way(begin, t, over(before, lessened(before, gap))), ZERO))
        found.append((t, gap))
    return found


def better(web, rival, one, other, person):
    """The ascending list of the greatest stretches (begin, end) on which a person is PAID more by rival than by web."""
    line, others = pay_line(web, walk(web, one, other), person), pay_line(rival, walk(rival, one, other), person)
    gaps, found = gaps_of(line, others), []
    for (begin, low), (end, high) in zip(gaps, gaps[1:]):
        if low[0] <= 0 and high[0] <= 0:
            continue
        if low[0] > 0 and found:
            begin, _ = found.pop()
        found.append((begin, end))
    return found


def all_persons(web, rival):
    """The ascending list of the PERSONS of both WEBS."""
    return sorted(set(persons_of(web) + persons_of(rival)))


def couples_of_lines(web, rival, one, other):
    """The list of tuples (person, line, line by rival) for all persons, ascending."""
    mine, theirs = walk(web, one, other), walk(rival, one, other)
    parts, others = parts_by_amount(web), parts_by_amount(rival)
    return [
        (person, line_by(parts.get(person, {}), mine), line_by(others.get(person, {}), theirs))
        for person in all_persons(web, rival)
    ]


def alike(web, rival, one, other):
    """Whether every person is PAID alike by both at all t."""
    return all([line == others for _, line, others in couples_of_lines(web, rival, one, other)])


def first_unlike(web, rival, one, other):
    """The tuple of the t up to which all are PAID alike, and the least person who is not then; None if always."""
    unlike = [(person, line, others) for person, line, others in couples_of_lines(web, rival, one, other)
              if line != others]
    if not unlike:
        return None
    at_once = [person for person, line, others in unlike if line[0] != others[0]]
    if at_once:
        return (ZERO, at_once[0])
    moments = [alike_up_to(line, others) for _, line, others in unlike]
    first = least_of(moments)
    return (first, unlike[moments.index(first)][0])


def alike_up_to(line, rival):
    """The greatest t up to which two lines, unlike but alike at first, are alike."""
    place = 1
    while line[place] == rival[place]:
        place += 1
    low, high, higher = line[place - 1], line[place], rival[place]
    if steepness(low, high) != steepness(low, higher):
        return low[0]
    # They go on alike until one of them bends, and the other one does not.
    return least_of((high[0], higher[0]))


def curves_by_amount(web):
    """The dict from all persons of a WEB of one FIRM to the CURVES of what they are PAID by its amount."""
    name = web[0][0]
    parts = parts_by_amount(web)
    return {person: parts[person][name] for person in persons_of(web)}


def couples_of_curves(web, rival):
    """The list of couples of CURVES by amount for all persons; who holds nothing is paid nothing."""
    mine, theirs = curves_by_amount(web), curves_by_amount(rival)
    return [
        (mine.get(person, nothing()), theirs.get(person, nothing())) for person in all_persons(web, rival)
    ]


def always_alike(web, rival):
    """Whether, with one FIRM, every person is PAID alike by both for all amounts."""
    return first_amount(web, rival) is None


def first_amount(web, rival):
    """The greatest amount up to which, with one FIRM, every person is PAID alike by both, None if always."""
    amounts = [same_up_to(one, other) for one, other in couples_of_curves(web, rival)]
    told = [amount for amount in amounts if amount is not None]
    return least_of(told) if told else None
