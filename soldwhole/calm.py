"""Calm choices: whether anybody can better alone what they are paid."""

from soldwhole.bests import check_many, first_paying, most_together, open_places, paid_together
from soldwhole.chosen import choices_at, first_choices, open_holdings
from soldwhole.fractions import compared, greatest_of
from soldwhole.nets import Net
from soldwhole.signs import paid_to
from soldwhole.webs import check_clear, persons_of


def bettered_by(web, amounts, choices, person):
    """The first CHOICES by which a person, by own other options, is PAID more, None if there are none."""
    check_clear(web)
    net, places, alone = Net(web), open_holdings(web, person), (person,)
    now = paid_together(net, amounts, choices, alone)
    if most_together(net, amounts, choices, places, alone) == now:
        return None
    return first_paying(net, amounts, choices, places, alone, lambda pay: compared(pay, now) > 0)


def choosing_persons(web):
    """The ascending list of the PERSONS that have a holding with more than one option."""
    return [person for person in persons_of(web) if open_holdings(web, person)]


def is_calm(web, amounts, choices):
    """Whether CHOICES are CALM."""
    check_clear(web)
    net = Net(web)
    now = paid_to(web, net.told_row(amounts, choices)[1])
    for person in choosing_persons(web):
        if most_together(net, amounts, choices, open_holdings(web, person), (person,)) != now[person]:
            return False
    return True


def calm_ones(web, amounts):
    """The list of all CALM CHOICES, by their options' indexes."""
    check_clear(web)
    persons = choosing_persons(web)
    places = open_places(web, persons)
    check_many(web, places)
    net = Net(web)
    ones = choices_at(web, first_choices(web), places)
    rows = [paid_to(web, net.told_row(amounts, one)[1]) for one in ones]
    left = list(range(len(ones)))
    for person in persons:
        kept = others_chosen(ones, [place for place in places if place not in open_holdings(web, person)])
        most = most_by(kept, [row[person] for row in rows])
        left = [at for at in left if rows[at][person] == most[kept[at]]]
    return [ones[at] for at in left]


def others_chosen(ones, places):
    """The list of the tuples of what each of the CHOICES has at places."""
    return [tuple([one[firm][index] for firm, index in places]) for one in ones]


def most_by(keys, pays):
    """The dict from each key to the greatest one of its pays."""
    found = {}
    for key, pay in zip(keys, pays):
        found[key] = greatest_of((found.get(key, pay), pay))
    return found
