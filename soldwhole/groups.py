"""Groups: what persons gain together by other choices, and how much they can at most."""

from soldwhole.bests import check_many, first_paying, most_together, open_places
from soldwhole.fractions import ZERO, compared, total
from soldwhole.nets import Net
from soldwhole.signs import change_of
from soldwhole.webs import check_clear


def group_change(web, amounts, choices, others, persons):
    """How much more persons are PAID together with others than with choices."""
    changes = change_of(web, amounts, choices, others)
    return total([changes.get(person, ZERO) for person in persons])


def best_for(web, amounts, choices, persons):
    """The tuple (sum, others): the most that persons can be PAID together, and the first CHOICES of theirs with it."""
    check_clear(web)
    places = open_places(web, persons)
    check_many(web, places)
    net = Net(web)
    most = most_together(net, amounts, choices, places, persons)
    return (most, first_paying(net, amounts, choices, places, persons, lambda pay: compared(pay, most) >= 0))
