"""Linear rows: solved exactly, in whole numbers."""

from math import gcd, lcm

from soldwhole.fractions import reduced


def solved(rows, right):
    """The tuple of the FRACTIONS that solve all rows, None if there are none, or several."""
    grid = [whole_row((*row, one)) for row, one in zip(rows, right)]
    divisor = 1
    for place in range(len(grid)):
        pivot = pivot_place(grid, place)
        if pivot is None:
            return None
        grid[place], grid[pivot] = grid[pivot], grid[place]
        lead = grid[place]
        grid = [row if at == place else cleared(row, lead, place, divisor) for at, row in enumerate(grid)]
        divisor = lead[place]
    # All entries but those on the diagonal are 0 now, and those on it are all alike.
    return tuple([reduced(row[-1], divisor) for row in grid])


def whole_row(row):
    """The list of whole numbers that are so many times the FRACTIONS of a row, none greater than need be."""
    scale = 1
    for one in row:
        scale = lcm(scale, one[1])
    whole = [n * (scale // d) for n, d in row]
    common = 0
    for n in whole:
        common = gcd(common, n)
    return [n // common for n in whole] if common > 1 else whole


def pivot_place(grid, place):
    """The first place from this one on of a row with an entry other than 0 in this column, None if there is none."""
    for other in range(place, len(grid)):
        if grid[other][place] != 0:
            return other
    return None


def cleared(row, lead, place, divisor):
    """A row made 0 in the column place by the row lead; each entry can be divided by the last divisor."""
    return [(lead[place] * one - row[place] * other) // divisor for one, other in zip(row, lead)]
