"""Fractions: tuples (n, d) of integers without a common divisor, d from 1 on."""

from math import gcd

ZERO = (0, 1)
ONE = (1, 1)
DIGITS_READ = 40
GREAT_BITS = 1500
ROUGH_BITS = 128


def reduced(n, d):
    """The fraction that stands for n / d, d not 0."""
    common = gcd(n, d)
    if d < 0:
        common = -common
    return (n // common, d // common)


def added(one, other):
    """The sum of two fractions."""
    (n, d), (m, e) = one, other
    common = gcd(d, e)
    # What can be divided out of the sum divides this: so great numbers are not multiplied first.
    part = n * (e // common) + m * (d // common)
    left = gcd(part, common)
    return (part // left, (d // common) * (e // left))


def lessened(one, other):
    """One less other."""
    return added(one, (-other[0], other[1]))


def times(one, other):
    """The product of two fractions."""
    (n, d), (m, e) = one, other
    left, right = gcd(n, e), gcd(m, d)
    return ((n // left) * (m // right), (d // right) * (e // left))


def over(one, other):
    """One by other, which is not 0."""
    n, d = other
    return times(one, (d, n) if n > 0 else (-d, -n))


def compared(one, other):
    """-1, 0 or 1 as one is less than, as great as, or greater than other."""
    (n, d), (m, e) = one, other
    if max(d, e).bit_length() > GREAT_BITS and n > 0 and m > 0:
        rough = compared_roughly(one, other)
        if rough != 0:
            return rough
    left = n * e
    right = m * d
    if left < right:
        return -1
    return 1 if left > right else 0


def compared_roughly(one, other):
    """The same of two fractions above 0 if their first bits tell it, otherwise 0: no great numbers are multiplied."""
    (n, d), (m, e) = first_bits(one), first_bits(other)
    # One lies from n / (d + 1) to (n + 1) / d, other likewise.
    if (n + 1) * (e + 1) < m * d:
        return -1
    return 1 if n * e > (m + 1) * (d + 1) else 0


def first_bits(one):
    """n and d, both with so many bits cut off that of d few are left."""
    n, d = one
    cut = max(0, d.bit_length() - ROUGH_BITS)
    return n >> cut, d >> cut


def least_of(fractions):
    """The least of at least one fraction."""
    least = fractions[0]
    for one in fractions:
        if compared(one, least) < 0:
            least = one
    return least


def greatest_of(fractions):
    """The greatest of at least one fraction."""
    most = fractions[0]
    for one in fractions:
        if compared(one, most) > 0:
            most = one
    return most


def total(fractions):
    """The sum of fractions, 0 of none."""
    summed = ZERO
    for one in fractions:
        summed = added(summed, one)
    return summed


def ascending(fractions):
    """The list of the fractions by what they stand for, each one once."""
    once = {one: True for one in fractions}
    # Two unlike ones differ by at least 1 by the square of the greatest d: so whole numbers tell their order.
    scale = max([one[1] for one in once], default=1) ** 2
    return sorted(list(once), key=lambda level: level[0] * scale // level[1])


def integer_text(n):
    """The text of an integer of any size: Python itself refuses to show one of some thousand digits."""
    rest = abs(n)
    parts = []
    while rest.bit_length() > 3000:
        rest, low = divmod(rest, 10 ** 60)
        parts.append(str(low).zfill(60))
    parts.append(str(rest))
    digits = "".join(reversed(parts))
    return "-" + digits if n < 0 else digits


def integer_in(text):
    """The integer that has this text, of at most forty digits, or None."""
    digits = text.removeprefix("-")
    if not (digits.isascii() and digits.isdigit()) or len(digits) > DIGITS_READ:
        return None
    n = int(text)
    return n if str(n) == text else None


def fraction_text(one):
    """The text of n, and if d is not 1 that of d behind a stroke."""
    n, d = one
    if d == 1:
        return integer_text(n)
    return integer_text(n) + "/" + integer_text(d)


def fraction_in(text):
    """The fraction that has this text, with at most forty digits in n, and in d, or None."""
    upper, stroke, lower = text.partition("/")
    n = integer_in(upper)
    if n is None:
        return None
    if stroke == "":
        return (n, 1)
    d = integer_in(lower)
    if d is None or d < 2 or gcd(n, d) != 1:
        return None
    return (n, d)
