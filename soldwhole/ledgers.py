"""Ledgers: what entries come to, day by day."""

from soldwhole.claims import ranks_needed, scaled_claim
from soldwhole.errors import NoDeed
from soldwhole.fractions import ONE, ZERO, added, compared, lessened, over, times


class Grant:
    """A GRANT: whose it is, what each part is, and the days of all parts that have not fallen away."""

    def __init__(self, key, part, days):
        self.key = key
        self.part = part
        self.days = days
        self.come = 0


class State:
    """What is there at some time: RANKS by firms, options by SORTS, COUNTS by SORTS and holders, and GRANTS."""

    def __init__(self):
        self.ranks = {}
        self.options = {}
        self.counts = {}
        self.grants = []

    def put(self, key, count):
        """Let the holder have this COUNT."""
        if count == ZERO:
            self.counts.pop(key, None)
        else:
            self.counts[key] = count

    def had(self, key):
        """The COUNT that the holder has."""
        return self.counts.get(key, ZERO)

    def bring(self, day):
        """Let all parts of GRANTS come that come up to the beginning of a day."""
        for grant in self.grants:
            come = len([one for one in grant.days if one <= day])
            if come > grant.come:
                parts = times((come - grant.come, 1), grant.part)
                self.put(grant.key, added(self.had(grant.key), parts))
                grant.come = come

    def has_sort(self, firm, sort):
        """Whether the firm has this SORT."""
        return (firm, sort) in self.options


def may_firm(state, deed):
    """Whether this firm can be there: no other one has its name."""
    return deed[1] not in state.ranks


def may_sort(state, deed):
    """Whether the firm can have this SORT."""
    _, firm, sort, options = deed
    if firm not in state.ranks or state.has_sort(firm, sort):
        return False
    return max([ranks_needed(option) for option in options]) <= state.ranks[firm]


def may_give(state, deed):
    """Whether units of the SORT can be given or granted to the holder."""
    return state.has_sort(deed[1], deed[2]) and deed[3] != deed[1]


def may_hand(state, deed):
    """Whether so many units can go from one to the other."""
    _, firm, sort, one, other, count = deed
    if not state.has_sort(firm, sort) or firm in (one, other) or one == other:
        return False
    return compared(state.had((firm, sort, one)), count) >= 0


def may_back(state, deed):
    """Whether the holder has so many units."""
    return compared(state.had(deed[1:4]), deed[4]) >= 0


def may_split(state, deed):
    """Whether the SORT is there."""
    return state.has_sort(deed[1], deed[2])


def may_leave(state, deed):
    """Whether the firm is there."""
    return deed[1] in state.ranks


MAY = {
    "firm": may_firm,
    "sort": may_sort,
    "give": may_give,
    "hand": may_hand,
    "back": may_back,
    "split": may_split,
    "grant": may_give,
    "leave": may_leave,
}


def do_firm(state, deed, day):
    """A firm is there."""
    state.ranks[deed[1]] = deed[2]


def do_sort(state, deed, day):
    """The firm has a SORT."""
    state.options[deed[1:3]] = deed[3]


def do_give(state, deed, day):
    """So many units more are the holder's."""
    state.put(deed[1:4], added(state.had(deed[1:4]), deed[4]))


def do_back(state, deed, day):
    """So many of the holder's units are no more."""
    state.put(deed[1:4], lessened(state.had(deed[1:4]), deed[4]))


def do_hand(state, deed, day):
    """So many units go from one to the other."""
    _, firm, sort, one, other, count = deed
    do_back(state, ("back", firm, sort, one, count), day)
    do_give(state, ("give", firm, sort, other, count), day)


def do_split(state, deed, day):
    """All COUNTS of the SORT are factor times as great, and its options are scaled by 1 / factor."""
    place, factor = deed[1:3], deed[3]
    state.options[place] = tuple([scaled_claim(option, over(ONE, factor)) for option in state.options[place]])
    for key in list(state.counts):
        if key[:2] == place:
            state.counts[key] = times(state.counts[key], factor)
    for grant in state.grants:
        if grant.key[:2] == place:
            grant.part = times(grant.part, factor)


def do_grant(state, deed, day):
    """Parts of so many units are the holder's on later days."""
    count, every, many = deed[4:]
    days = [day + place * every for place in range(1, many + 1)]
    state.grants.append(Grant(deed[1:4], over(count, (many, 1)), days))


def do_leave(state, deed, day):
    """What would come of the holder's GRANTS on later days falls away."""
    for grant in state.grants:
        if grant.key[0] == deed[1] and grant.key[2] == deed[2]:
            grant.days = [one for one in grant.days if one <= day]


DO = {
    "firm": do_firm,
    "sort": do_sort,
    "give": do_give,
    "hand": do_hand,
    "back": do_back,
    "split": do_split,
    "grant": do_grant,
    "leave": do_leave,
}


def outs(entries):
    """The dict whose keys are the indexes of all ENTRIES that are OUT."""
    out = {}
    # Whether a strike is OUT hangs on later ones alone.
    for index in reversed(range(len(entries))):
        deed = entries[index][1]
        if deed[0] == "strike" and deed[1] < index and index not in out:
            out[deed[1]] = True
    return out


def order_of(entries):
    """The tuple of the indexes of what is not OUT and no strike, by day, on one day by index."""
    out = outs(entries)
    days = [(entry[0], index) for index, entry in enumerate(entries) if index not in out and entry[1][0] != "strike"]
    return tuple([index for _, index in sorted(days)])


def can_be_done(state, deed):
    """Whether a DEED that is no strike can be done."""
    may = MAY[deed[0]]
    return may(state, deed)


def done_up_to(entries, day):
    """The State at the end of a day, how many of order_of have been done for it, and what could not be done.

    This is the index of the first ENTRY that cannot be done, where it stops, or None. The day None is behind all
    ENTRIES: then only those parts of GRANTS are brought that come up to the last one.
    """
    state, many = State(), 0
    for index in order_of(entries):
        date, deed = entries[index]
        if day is not None and date > day:
            break
        state.bring(date)
        if not can_be_done(state, deed):
            return state, many, index
        act = DO[deed[0]]
        act(state, deed, date)
        many += 1
    if day is not None:
        state.bring(day)
    return state, many, None


def first_wrong_strike(entries):
    """The least index of a strike that names no ENTRY ahead of it, None if there is none."""
    for index, entry in enumerate(entries):
        if entry[1][0] == "strike" and entry[1][1] >= index:
            return index
    return None


def check_strikes(entries):
    """Raise NoDeed if a strike names no ENTRY ahead of it."""
    wrong = first_wrong_strike(entries)
    if wrong is not None:
        raise NoDeed(wrong)


def first_wrong(entries):
    """The index of the first ENTRY that is wrong, None if all can be done."""
    wrong = first_wrong_strike(entries)
    if wrong is not None:
        return wrong
    _, _, wrong = done_up_to(entries, None)
    return wrong


def state_of(entries, day):
    """The State at the end of a day."""
    check_strikes(entries)
    state, _, wrong = done_up_to(entries, day)
    if wrong is not None:
        raise NoDeed(wrong)
    return state


def web_of(entries, day):
    """The WEB at the end of a day."""
    state = state_of(entries, day)
    holdings = {name: [] for name in sorted(list(state.ranks))}
    for firm, sort, holder in sorted(list(state.counts)):
        count = state.counts[(firm, sort, holder)]
        options = [scaled_claim(option, count) for option in state.options[(firm, sort)]]
        holdings[firm].append((holder, tuple(options)))
    return tuple([(name, state.ranks[name], tuple(rows)) for name, rows in holdings.items()])


def counts_of(entries, day):
    """The dict from tuples (firm, sort, holder) to COUNTS at the end of a day."""
    counts = state_of(entries, day).counts
    return {key: counts[key] for key in sorted(list(counts))}


def waiting(entries, day):
    """The dict from tuples (firm, sort, holder) to what of GRANTS has not come at the end of a day."""
    counts = {}
    for grant in state_of(entries, day).grants:
        lacking = len(grant.days) - grant.come
        if lacking > 0:
            counts[grant.key] = added(counts.get(grant.key, ZERO), times((lacking, 1), grant.part))
    return {key: counts[key] for key in sorted(list(counts))}


def days_of(entries):
    """The ascending tuple of all days on which something is done or comes, by all that can be done."""
    check_strikes(entries)
    state, many, _ = done_up_to(entries, None)
    days = [entries[index][0] for index in order_of(entries)[:many]]
    for grant in state.grants:
        days.extend(grant.days)
    return tuple(sorted(set(days)))


def settled(entries):
    """ENTRIES without strikes, with the same WEB at each day."""
    wrong = first_wrong(entries)
    if wrong is not None:
        raise NoDeed(wrong)
    return tuple([entries[index] for index in order_of(entries)])
