"""Waterfalls: an amount is poured into a firm, and the level rises step by step. No curve is asked."""

from soldwhole.claims import folded
from soldwhole.fractions import ONE, ZERO, added, compared, greatest_of, least_of, lessened, over, times, total


def claim_now(ranks, claim, level):
    """What a CLAIM pays at a LEVEL, and how much more for each 1 by which it rises."""
    pay, rate, _ = claim_view(ranks, claim, level)
    return (pay, rate)


# A view of a claim at a level is the tuple of what it pays there, its rate just above, and the next level at which
# the rate may change, None if there is none.
def claim_view(ranks, claim, level):
    """The view of a CLAIM at a LEVEL."""
    return folded(
        claim,
        lambda part: plain_view(ranks, part, level),
        lambda inner, amount: capped_view(inner, amount, level),
        summed_view,
    )


def plain_view(ranks, claim, level):
    """The view of a CLAIM with no others in it."""
    if claim[0] == "none":
        return (ZERO, ZERO, None)
    if claim[0] == "due":
        return due_view((claim[1], 1), claim[2], level)
    begin = (ranks, 1)
    if claim[0] == "option":
        begin = added(begin, claim[2])
    if compared(level, begin) < 0:
        return (ZERO, ZERO, begin)
    return (times(claim[1], lessened(level, begin)), claim[1], None)


def due_view(begin, amount, level):
    """The view of a due that is paid from the level begin on."""
    end = added(begin, ONE)
    if compared(level, begin) < 0:
        return (ZERO, ZERO, begin)
    if compared(level, end) < 0:
        return (times(amount, lessened(level, begin)), amount, end)
    return (amount, ZERO, None)


def capped_view(view, amount, level):
    """The view of a claim with this view that is capped at an amount."""
    pay, rate, until = view
    if compared(pay, amount) >= 0:
        return (amount, ZERO, None)
    if rate == ZERO:
        return view
    full = added(level, over(lessened(amount, pay), rate))
    return (pay, rate, first_of([until, full]))


def summed_view(views):
    """The view of the sum of claims with these views."""
    pay, rate = total([view[0] for view in views]), total([view[1] for view in views])
    return (pay, rate, first_of([view[2] for view in views]))


def first_of(levels):
    """The least of levels, None being none of them."""
    told = [level for level in levels if level is not None]
    return least_of(told) if told else None


def paper_now(ranks, paper, level):
    """What a PAPER pays at a LEVEL, and the greatest rate of those of its CLAIMS that pay so much."""
    return most_of_views([claim_view(ranks, claim, level) for claim in paper])


def most_of_views(views):
    """What the claims with these views pay at most, and the greatest rate of those that pay so much."""
    pay = greatest_of([view[0] for view in views])
    return (pay, greatest_of([view[1] for view in views if view[0] == pay]))


def rates_of(papers_views):
    """The tuple of the rates of all papers, each told by the list of the views of its claims."""
    return tuple([most_of_views(views)[1] for views in papers_views])


def next_bend(papers_views, level):
    """The next level above this one at which some paper's rate may change, None if there is none."""
    levels = []
    for views in papers_views:
        levels.extend([until for _, _, until in views])
        levels.extend(overtakings(views, level))
    return first_of(levels)


def overtakings(views, level):
    """The list of the levels at which claims would come to pay as much as the one that pays most now."""
    pay, rate = most_of_views(views)
    steeper = [view for view in views if compared(view[1], rate) > 0]
    return [added(level, over(lessened(pay, view[0]), lessened(view[1], rate))) for view in steeper]


def risen_view(ranks, claim, view, level, further):
    """The view of a CLAIM at a further LEVEL, with no bend between; view is the one at level."""
    pay, rate, until = view
    if until is not None and compared(until, further) <= 0:
        return claim_view(ranks, claim, further)
    return (added(pay, times(rate, lessened(further, level))), rate, until)


def risen_views(ranks, paper, views, level, further):
    """The views of all CLAIMS of a PAPER at a further LEVEL, likewise."""
    return [risen_view(ranks, claim, view, level, further) for claim, view in zip(paper, views)]


def next_unlike(ranks, papers, papers_views, level):
    """The next LEVEL at which some rate is another one, and the views there; None and the views if there is none."""
    rates, views_now, now = rates_of(papers_views), papers_views, level
    while rates_of(views_now) == rates:
        further = next_bend(views_now, now)
        if further is None:
            return None, views_now
        views_now = [risen_views(ranks, paper, views, now, further) for paper, views in zip(papers, views_now)]
        now = further
    return now, views_now


def steps(ranks, papers, amount):
    """The list of the STEPS by which an amount is paid out."""
    found, left, level = [], amount, ZERO
    papers_views = [[claim_view(ranks, claim, ZERO) for claim in paper] for paper in papers]
    while left != ZERO and level is not None:
        rates = rates_of(papers_views)
        rate = total(rates)
        further, papers_views = next_unlike(ranks, papers, papers_views, level)
        if rate != ZERO:
            last = first_of([further, added(level, over(left, rate))])
            rise = lessened(last, level)
            found.append((level, last, tuple([times(one, rise) for one in rates])))
            left = lessened(left, times(rate, rise))
        level = further
    return found


def paid_out(ranks, papers, amount):
    """The tuple of what each PAPER is paid in all STEPS."""
    pays = [step[2] for step in steps(ranks, papers, amount)]
    return tuple([total([pay[place] for pay in pays]) for place in range(len(papers))])


def level_reached(ranks, papers, amount):
    """The last LEVEL of the last STEP, 0 if there is none."""
    found = steps(ranks, papers, amount)
    return found[-1][1] if found else ZERO


def left_over(ranks, papers, amount):
    """What is left behind the STEPS."""
    return lessened(amount, total(paid_out(ranks, papers, amount)))
