"""Kept webs: a web with amounts that is kept under changes, which can be taken back."""

from soldwhole.books import unlike_pays
from soldwhole.errors import Nothing, Wrong
from soldwhole.forms import MOST_RANKS, firm_of, is_amount, is_firm, is_holding, is_integer, is_name, is_web
from soldwhole.fractions import ZERO
from soldwhole.nets import Net
from soldwhole.outcomes import most_row
from soldwhole.signs import paid_to
from soldwhole.webs import check_clear


def row_in(web, amounts):
    """The outcome of AMOUNTS for any WEB."""
    check_clear(web)
    return most_row(Net(web), amounts)


def paid_in(web, amounts):
    """The dict from all PERSONS to what each one is PAID in the outcome."""
    return paid_to(web, row_in(web, amounts)[1])


def with_firm(web, firm):
    """The WEB with a FIRM in the place of the one with its name, or put among the others."""
    others = [other for other in web if other[0] != firm[0]]
    return tuple(sorted([*others, firm], key=lambda one: one[0]))


def check(is_right, place):
    """Raise Wrong with the place of an argument that is not as described."""
    if not is_right:
        raise Wrong(place)


class Kept:
    """A web, the amount of each firm, and what was kept ahead of each change that can be taken back."""

    def __init__(self, web):
        check(is_web(web), 0)
        self.firms = web
        # It is never changed, another one takes its place: so the past and twins may have the same one.
        self.come = {name: ZERO for name, _, _ in web}
        self.past = []

    def __eq__(self, other):
        return isinstance(other, Kept) and self.firms == other.firms and self.come == other.come

    def changed(self, firms, come):
        """Keep a WEB and AMOUNTS of some of its firms from now on, with 0 for the others; True, as it is done."""
        self.past.append((self.firms, self.come))
        self.firms = firms
        self.come = {name: come.get(name, ZERO) for name, _, _ in firms}
        return True

    def put_firm(self, firm):
        """Let a FIRM take the place of the one with its name, or be among the others."""
        check(is_firm(firm), 0)
        return self.changed(with_firm(self.firms, firm), self.come)

    def take_firm(self, name):
        """Let a firm go, with its amount; whether there was one."""
        check(is_name(name), 0)
        if name not in self.come:
            return False
        return self.changed(tuple([firm for firm in self.firms if firm[0] != name]), self.come)

    def put_amount(self, name, amount):
        """Let a firm have this amount; whether there is one."""
        check(is_name(name), 0)
        check(is_amount(amount), 1)
        if name not in self.come:
            return False
        return self.changed(self.firms, {**self.come, name: amount})

    def put_holding(self, name, holding):
        """Put a HOLDING behind those of a firm; whether it can be one of it."""
        check(is_name(name), 0)
        check(is_holding(MOST_RANKS, holding), 1)
        if name not in self.come:
            return False
        _, ranks, holdings = firm_of(self.firms, name)
        firm = (name, ranks, (*holdings, holding))
        return self.changed(with_firm(self.firms, firm), self.come) if is_firm(firm) else False

    def take_holding(self, name, index):
        """Let a holding of a firm go; whether there was one."""
        check(is_name(name), 0)
        check(is_integer(index), 1)
        if name not in self.come:
            return False
        _, ranks, holdings = firm_of(self.firms, name)
        if not 0 <= index < len(holdings):
            return False
        return self.changed(with_firm(self.firms, (name, ranks, holdings[:index] + holdings[index + 1:])), self.come)

    def web(self):
        """The WEB that is kept."""
        return self.firms

    def amounts(self):
        """The AMOUNTS that are kept."""
        return {name: self.come[name] for name, _, _ in self.firms}

    def outcome(self):
        """The tuple (levels, payments) of the outcome."""
        return row_in(self.firms, self.come)

    def paid(self):
        """The dict from all PERSONS to what each one is PAID in the outcome."""
        return paid_in(self.firms, self.come)

    def moved(self):
        """The dict from all PERSONS that are PAID unlike now and ahead of the last change to the tuple of both."""
        if not self.past:
            return {}
        now = self.paid()
        firms, come = self.past[-1]
        return unlike_pays(paid_in(firms, come), now)

    def undo(self):
        """Take back the last change."""
        if not self.past:
            raise Nothing()
        self.firms, self.come = self.past.pop()

    def twin(self):
        """An independent one in the same state, with what can be taken back."""
        other = Kept(self.firms)
        other.come = self.come
        other.past = list(self.past)
        return other
