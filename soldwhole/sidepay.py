"""Side payments: what losers are given to be for an offer, and who bears it."""

from soldwhole.forms import is_fraction
from soldwhole.fractions import ZERO, added, compared, over, times, total
from soldwhole.offers import gains, is_carried, lacking_votes, voters_but


def losses_in(changes):
    """The dict from all losers to what each is PAID less."""
    return {person: (-gain[0], gain[1]) for person, gain in changes.items() if gain[0] < 0}


def raises_in(changes):
    """The dict from all gainers to what each is PAID more."""
    return {person: gain for person, gain in changes.items() if gain[0] > 0}


def most_given(changes):
    """What all gainers gain together."""
    return total(list(raises_in(changes).values()))


def least_side_pay(web, one, other, classes):
    """A SIDE PAYMENT of the least SUM, None if there is none."""
    changes = gains(web, one, other)
    losses = losses_in(changes)
    # Nobody need be given more than their loss, and nobody without votes anything.
    side = {person: losses[person] for person in cheapest(losses, classes)}
    return side if compared(side_sum(side), most_given(changes)) <= 0 else None


def cheapest(losses, classes):
    """The tuple of the losers whose votes will do and who together lose least of all such; those of all would do.

    A way is a tuple (what is lost, persons, what each class lacks); one that will do is not led on.
    """
    best, ways = sifted([(ZERO, (), lacking_votes(classes, voters_but(classes, losses)))], None)
    for person in [one for one in voters_but(classes, ()) if one in losses]:
        loss, weights = losses[person], weights_of(classes, person)
        led = [(added(lost, loss), (*persons, person), less_by(lacking, weights)) for lost, persons, lacking in ways]
        best, ways = sifted(ways + led, best)
    return best[1]


def sifted(ways, best):
    """The best one of a way and those that will do, None if there are none, and the list of those to be led on."""
    led = []
    for way in ways:
        if best is not None and compared(way[0], best[0]) >= 0:
            continue
        if all([lacking <= 0 for lacking in way[2]]):
            best = way
        else:
            led.append(way)
    return best, led


def weights_of(classes, person):
    """The list of by how much less each class lacks if a person more is for it."""
    # As lacking_votes tells it, each vote counts as often as the d of the needed part says.
    return [needed[1] * dict(votes).get(person, 0) for votes, needed in classes]


def less_by(numbers, others):
    """The tuple of numbers, each less the one of others."""
    return tuple([one - other for one, other in zip(numbers, others)])


def is_side_pay(web, one, other, classes, thing):
    """Whether it is a SIDE PAYMENT."""
    if not isinstance(thing, dict):
        return False
    changes = gains(web, one, other)
    losses = losses_in(changes)
    if not all([person in losses and is_fraction(thing[person]) for person in thing]):
        return False
    if not all([compared(thing[person], losses[person]) >= 0 for person in thing]):
        return False
    if compared(side_sum(thing), most_given(changes)) > 0:
        return False
    return is_carried(classes, [*voters_but(classes, losses), *thing])


def side_sum(side):
    """The SUM of a SIDE PAYMENT."""
    return total(list(side.values()))


def bearers(web, one, other, side):
    """The dict from the gainers to what each gives, in proportion to what they gain."""
    changes = gains(web, one, other)
    summed, most = side_sum(side), most_given(changes)
    return {person: over(times(gain, summed), most) for person, gain in raises_in(changes).items()}
