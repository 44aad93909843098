"""Webs: who holds something, who founded the firms, and whether their dues go in a circle."""

from soldwhole.claims import has_due
from soldwhole.errors import Circle, NotFounded


def firm_names(web):
    """The list of the names of the firms, ascending."""
    return [name for name, _, _ in web]


def persons_of(web):
    """The ascending tuple of the PERSONS that hold something."""
    firms = firm_names(web)
    holders = [holder for _, _, holdings in web for holder, _ in holdings]
    return tuple(sorted(set([holder for holder in holders if holder not in firms])))


def first_unfounded(web):
    """The least name of a firm in which no person has a holding with shares alone, None if the WEB is FOUNDED."""
    firms = firm_names(web)
    for name, _, holdings in web:
        if not any([is_founding(options) and holder not in firms for holder, options in holdings]):
            return name
    return None


def is_founding(options):
    """Whether the only option is shares."""
    return len(options) == 1 and options[0][0] == "shares"


def is_founded(web):
    """Whether it is FOUNDED."""
    return first_unfounded(web) is None


def dues_ahead(web):
    """The dict from the names of firms to the ascending lists of those firms of which each has a holding with a due."""
    ahead = {name: [] for name in firm_names(web)}
    for name, _, holdings in web:
        for holder, options in holdings:
            if holder in ahead and name not in ahead[holder] and any([has_due(option) for option in options]):
                ahead[holder].append(name)
    return ahead


def placed_firms(ahead):
    """The list of firms, each behind those ahead of it, that goes on until no further one can be placed."""
    placed = []
    ready = [name for name in ahead if not ahead[name]]
    while ready:
        placed.append(ready[0])
        left = [name for name in ahead if name not in placed]
        ready = [name for name in left if all([one in placed for one in ahead[name]])]
    return placed


def circle_of(web):
    """A CIRCLE, None if there is none."""
    ahead = dues_ahead(web)
    placed = placed_firms(ahead)
    left = [name for name in ahead if name not in placed]
    if not left:
        return None
    # Each firm that is left has one ahead that is left: so the way back comes to a firm a second time.
    way = []
    now = left[0]
    while now not in way:
        way.append(now)
        now = [name for name in ahead[now] if name in left][0]
    return tuple(reversed(way[way.index(now):]))


def is_circle(web, thing):
    """Whether it is a CIRCLE."""
    if not isinstance(thing, tuple) or len(thing) < 2:
        return False
    ahead = dues_ahead(web)
    if not all([isinstance(name, str) and name in ahead for name in thing]) or len(set(thing)) != len(thing):
        return False
    return all([before in ahead[name] for before, name in zip((thing[-1], *thing), thing)])


def dues_order(web):
    """A DUES ORDER, None if there is none."""
    placed = placed_firms(dues_ahead(web))
    return tuple(placed) if len(placed) == len(web) else None


def is_dues_order(web, thing):
    """Whether it is a DUES ORDER."""
    if not isinstance(thing, tuple) or not all([isinstance(name, str) for name in thing]):
        return False
    if sorted(thing) != firm_names(web):
        return False
    ahead = dues_ahead(web)
    return all([one in thing[:place] for place, name in enumerate(thing) for one in ahead[name]])


def is_clear(web):
    """Whether it is FOUNDED and has no CIRCLE OF DUES."""
    return is_founded(web) and dues_order(web) is not None


def check_founded(web):
    """Raise NotFounded for a WEB that is not FOUNDED."""
    name = first_unfounded(web)
    if name is not None:
        raise NotFounded(name)


def check_clear(web):
    """Raise NotFounded, or else Circle, for a WEB that is not CLEAR."""
    check_founded(web)
    names = circle_of(web)
    if names is not None:
        raise Circle(names)
