"""Offers and votes: who gains by other amounts, who loses, and whether an offer is carried."""

from soldwhole.forms import is_fraction, is_integer, is_name
from soldwhole.fractions import ONE, compared, lessened
from soldwhole.nets import Net
from soldwhole.outcomes import most_row
from soldwhole.signs import paid_to


def pays(web, offers):
    """The list of the dicts from all persons to what each is PAID by AMOUNTS."""
    net = Net(web)
    return [paid_to(web, most_row(net, amounts)[1]) for amounts in offers]


def gains(web, one, other):
    """The dict from all persons to what each is PAID more by other than by one."""
    before, behind = pays(web, (one, other))
    return {person: lessened(behind[person], before[person]) for person in before}


def gainers(web, one, other):
    """The ascending tuple of the persons who are PAID more by other."""
    return tuple([person for person, gain in gains(web, one, other).items() if gain[0] > 0])


def losers(web, one, other):
    """The ascending tuple of the persons who are PAID less by other."""
    return tuple([person for person, gain in gains(web, one, other).items() if gain[0] < 0])


def is_class(thing):
    """Whether it is a CLASS."""
    if not isinstance(thing, tuple) or len(thing) != 2:
        return False
    votes, needed = thing
    if not isinstance(votes, tuple) or not all([is_vote(one) for one in votes]):
        return False
    if not all([low[0] < high[0] for low, high in zip(votes, votes[1:])]):
        return False
    return is_fraction(needed) and needed[0] >= 0 and compared(needed, ONE) <= 0


def is_vote(thing):
    """Whether it is a couple of a NAME and an integer from 1 on."""
    return isinstance(thing, tuple) and len(thing) == 2 and is_name(thing[0]) and is_integer(thing[1]) and thing[1] >= 1


def votes_for(classes, persons):
    """The tuple of how many votes are for an offer in each CLASS, if just these persons are for it."""
    return tuple([sum([many for person, many in votes if person in persons]) for votes, _ in classes])


def lacking_votes(classes, persons):
    """The tuple of how many times d of its needed part what each CLASS lacks, if just these persons are for it.

    It is 0 or less where the CLASS is FOR the offer.
    """
    return tuple([
        needed[0] * sum([many for _, many in votes]) - needed[1] * found
        for (votes, needed), found in zip(classes, votes_for(classes, persons))
    ])


def is_carried(classes, persons):
    """Whether each CLASS is FOR an offer, if just these persons are for it."""
    return all([lacking <= 0 for lacking in lacking_votes(classes, persons)])


def voters_but(classes, persons):
    """The ascending list of all who have votes in some CLASS, but for these persons."""
    return sorted(set([person for votes, _ in classes for person, _ in votes if person not in persons]))


def is_carried_alone(web, one, other, classes):
    """Whether other is carried if just those are for it who are PAID no less by it."""
    return is_carried(classes, voters_but(classes, losers(web, one, other)))
