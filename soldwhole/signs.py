"""Signs: what everybody is paid by given choices, and what the exchange of one option gains."""

from soldwhole.claims import curve_of
from soldwhole.curves import pay_at
from soldwhole.forms import firm_of
from soldwhole.fractions import ZERO, added, compared, lessened
from soldwhole.nets import Net
from soldwhole.webs import check_clear, persons_of


def told(web, amounts, choices):
    """The tuple (levels, payments) of the TOLD levels and the RIGHT PAYMENTS."""
    check_clear(web)
    return Net(web).told_row(amounts, choices)


def paid_to(web, payments):
    """The dict from all PERSONS to what each one is PAID."""
    found = {person: ZERO for person in persons_of(web)}
    for name, _, holdings in web:
        for (holder, _), pay in zip(holdings, payments[name]):
            if holder in found:
                found[holder] = added(found[holder], pay)
    return found


def claimed(web, levels, firm, index, option):
    """What an option of a holding claims at the level of its firm."""
    _, ranks, holdings = firm_of(web, firm)
    return pay_at(curve_of(ranks, holdings[index][1][option]), levels[firm])


def sign_of(web, amounts, choices, firm, index, option):
    """1, 0 or -1 as an option claims more, the same, or less than the chosen one at the TOLD levels."""
    levels, _ = told(web, amounts, choices)
    chosen = claimed(web, levels, firm, index, choices[firm][index])
    return compared(claimed(web, levels, firm, index, option), chosen)


def change_of(web, amounts, choices, others):
    """The dict from all PERSONS to how much more each one is PAID with others than with choices."""
    check_clear(web)
    net = Net(web)
    before, behind = [paid_to(web, net.told_row(amounts, one)[1]) for one in (choices, others)]
    return {person: lessened(behind[person], before[person]) for person in before}
