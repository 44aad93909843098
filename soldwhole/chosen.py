"""Choices: which option of each holding is chosen, and the curves that come of it."""

from soldwhole.claims import curve_of, options_curve
from soldwhole.forms import choosing_of, firm_of
from soldwhole.webs import firm_names


def picked_curve(ranks, options, pick):
    """The CURVE of the option with the index pick; of None the GREATEST of all, as of a firm's holding."""
    return options_curve(ranks, options) if pick is None else curve_of(ranks, options[pick])


def chosen_curves(web, choices):
    """The dict from the names of firms to the tuples of the CHOSEN curves."""
    return {
        name: tuple([picked_curve(ranks, options, pick) for (_, options), pick in zip(holdings, choices[name])])
        for name, ranks, holdings in web
    }


def most_curves(web):
    """The dict from the names of firms to the tuples of the GREATEST curves of all options of each holding."""
    return chosen_curves(web, free_choices(web))


def free_choices(web):
    """None for each holding, as if all were firms': what claims most is taken, at each level."""
    return {name: tuple([None for _ in holdings]) for name, _, holdings in web}


def first_choices(web):
    """The CHOICES in which each person's holding has its first option."""
    firms = firm_names(web)
    return {name: tuple([None if one[0] in firms else 0 for one in holdings]) for name, _, holdings in web}


def copied(choices):
    """The same CHOICES, the names of firms ascending."""
    return {name: choices[name] for name in sorted(list(choices))}


def exchanged(choices, firm, index, option):
    """CHOICES with another option of one holding."""
    found = copied(choices)
    entries = list(choices[firm])
    entries[index] = option
    found[firm] = tuple(entries)
    return found


def open_holdings(web, person):
    """The ascending tuple of the tuples (firm, index) of a person's holdings that have more than one option."""
    return tuple(choosing_of(web, person))


def options_many(web, firm, index):
    """How many options a holding has."""
    return len(firm_of(web, firm)[2][index][1])


def choices_of(web, choices, person):
    """The list of all CHOICES that are unlike at most at this person's holdings, the first open one slowest."""
    return choices_at(web, choices, open_holdings(web, person))


def choices_at(web, choices, places):
    """The list of all CHOICES that are unlike at most at the holdings (firm, index) of places, the first slowest."""
    found = [copied(choices)]
    for firm, index in places:
        many = options_many(web, firm, index)
        found = [exchanged(one, firm, index, option) for one in found for option in range(many)]
    return found
