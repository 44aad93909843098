"""Rows of exchanges: which options gain, and where one gainful exchange after another ends."""

from soldwhole.chosen import copied, exchanged
from soldwhole.curves import pay_at
from soldwhole.fractions import compared
from soldwhole.nets import Net
from soldwhole.webs import check_clear


def gainful(web, amounts, choices):
    """The ascending list of the tuples (firm, index, option) of all RIVALS whose sign is 1."""
    check_clear(web)
    return gainful_in(Net(web), amounts, choices)


def gainful_in(net, amounts, choices):
    """The same of a web that is CLEAR and made ready."""
    levels, _ = net.told_row(amounts, choices)
    return [
        (name, index, option)
        for name, _, holdings in net.firms
        for index, (_, options) in enumerate(holdings)
        for option in options_above(net, name, index, len(options), choices[name][index], levels[name])
    ]


def options_above(net, name, index, many, pick, level):
    """The list of those of so many options of a holding that claim more at a level than the pick, none of None."""
    if pick is None or many == 1:
        return []
    claims = [pay_at(net.curve_at(name, index, option), level) for option in range(many)]
    return [option for option in range(many) if compared(claims[option], claims[pick]) > 0]


def led_on(web, amounts, choices, picks):
    """The list of CHOICES that come of choices, one exchange behind the other, as picks tell which."""
    check_clear(web)
    net = Net(web)
    found = [copied(choices)]
    for pick in picks:
        ways = gainful_in(net, amounts, found[-1])
        if not ways:
            break
        firm, index, option = ways[pick % len(ways)]
        found.append(exchanged(found[-1], firm, index, option))
    return found


def ended(web, amounts, choices):
    """The CHOICES that come of the first gainful exchange, again and again, until there are none."""
    check_clear(web)
    net = Net(web)
    found = copied(choices)
    ways = gainful_in(net, amounts, found)
    # Each exchange lowers the level of its firm and raises none: so no CHOICES come twice, and it ends.
    while ways:
        firm, index, option = ways[0]
        found = exchanged(found, firm, index, option)
        ways = gainful_in(net, amounts, found)
    return found
