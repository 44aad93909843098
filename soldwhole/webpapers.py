"""Papers of webs: what parts two rows of payments, so that whoever looks sees why there is more than one."""

from soldwhole.fractions import compared, total


def parting_lot(web, one, other):
    """The PARTING LOT of the least RIGHT PAYMENTS and others, None if they are alike."""
    # The others have more at some places, all of it goes to firms, and whoever gets more has more.
    names = tuple([name for name, _, _ in web if one[name] != other[name]])
    return names if names else None


def unlike_holdings(web, one, other):
    """The list of couples (payer, holder) for all holdings that are paid unlike."""
    return [
        (name, holding[0])
        for name, _, holdings in web
        for holding, low, high in zip(holdings, one[name], other[name])
        if low != high
    ]


def is_parting_lot(web, one, other, thing):
    """Whether it is a PARTING LOT of two RIGHT PAYMENTS."""
    if not isinstance(thing, tuple) or len(thing) == 0:
        return False
    # The names of a web ascend: so those of a lot stand in the same order, each once.
    if [firm[0] for firm in web if firm[0] in thing] != list(thing):
        return False
    couples = unlike_holdings(web, one, other)
    if not all([payer in thing and holder in thing for payer, holder in couples]):
        return False
    takers = [holder for _, holder in couples]
    return all([name in takers and compared(total(one[name]), total(other[name])) <= 0 for name in thing])
