"""Nets: webs made ready for reckoning. Each curve and each flow is made once, whatever is asked of them."""

from soldwhole.chosen import picked_curve
from soldwhole.curvebacks import level_for
from soldwhole.curves import added_up
from soldwhole.flows import flow_of, lowered, settled_had
from soldwhole.forms import firm_of
from soldwhole.onefirm import pays_at


class Net:
    """A web, with all that has been made of it."""

    def __init__(self, web):
        self.firms = web
        self.places = {firm[0]: place for place, firm in enumerate(web)}
        self.drawn_curves = {}
        self.payers = {}

    def curve_at(self, name, index, pick):
        """The CURVE of an option of a holding; of None the GREATEST of all, also if it is a person's."""
        key = (name, index, pick)
        if key not in self.drawn_curves:
            _, ranks, holdings = firm_of(self.firms, name)
            self.drawn_curves[key] = picked_curve(ranks, holdings[index][1], pick)
        return self.drawn_curves[key]

    def payer(self, name, picks):
        """The tuple (curves, their sum, FLOW) of a firm, picks being its entry of CHOICES."""
        key = (name, picks)
        if key not in self.payers:
            holders = [holding[0] for holding in firm_of(self.firms, name)[2]]
            curves = tuple([self.curve_at(name, index, pick) for index, pick in enumerate(picks)])
            whole = added_up(curves)
            self.payers[key] = (curves, whole, flow_of(holders, curves, whole, self.places))
        return self.payers[key]

    def row_led(self, amounts, choices, led):
        """The tuple (levels, payments) of RIGHT PAYMENTS with their least levels.

        led tells which ones if there are several: lowered the least, raised the greatest. A person's entry of choices
        may be None, as a firm's is.
        """
        names = list(self.places)
        payers = [self.payer(name, choices[name]) for name in names]
        flows = [flow for _, _, flow in payers]
        had = led(flows, settled_had(flows, [amounts[name] for name in names]))
        reached = [level_for(whole, much) for (_, whole, _), much in zip(payers, had)]
        rows = [pays_at(curves, level) for (curves, _, _), level in zip(payers, reached)]
        return (dict(zip(names, reached)), dict(zip(names, rows)))

    def told_row(self, amounts, choices):
        """The tuple (levels, payments) of the least RIGHT PAYMENTS, in a CLEAR web the only ones."""
        return self.row_led(amounts, choices, lowered)
