"""Papers of levels: by them whoever looks sees what one firm pays, without a search."""

from soldwhole.curves import pay_at, rose_to
from soldwhole.forms import is_amount, is_fraction, is_integer
from soldwhole.fractions import ZERO, lessened, total
from soldwhole.onefirm import level_of, payments


def level_paper(curves, amount):
    """The LEVEL PAPER with the least index, None if the amount is never paid."""
    level = level_of(curves, amount)
    if level is None:
        return None
    rising = [index for index, one in enumerate(curves) if rose_to(one, level) != ZERO]
    return (level, rising[0] if rising else None)


def is_level_paper(curves, amount, thing):
    """Whether it is a LEVEL PAPER of these CURVES and the amount."""
    if not isinstance(thing, tuple) or len(thing) != 2:
        return False
    level, index = thing
    if not is_amount(level) or total([pay_at(one, level) for one in curves]) != amount:
        return False
    if level == ZERO:
        return index is None
    return is_integer(index) and 0 <= index < len(curves) and rose_to(curves[index], level) != ZERO


def are_paid(curves, amount, thing):
    """Whether it is the tuple of FRACTIONS that the CURVES are paid of the amount."""
    if not isinstance(thing, tuple) or not all([is_fraction(one) for one in thing]):
        return False
    return thing == payments(curves, amount)


def parting_of(curves, one, other):
    """The tuple of by how much each CURVE is paid more at the amount other than at one."""
    return tuple([lessened(high, low) for low, high in zip(payments(curves, one), payments(curves, other))])
