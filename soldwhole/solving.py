"""Linear rows: solved exactly, in whole numbers."""

from math import lcm

from soldwhole.fractions import reduced


def solved(rows, right):
    """The tuple of the FRACTIONS that solve all rows, None if there are none, or several."""
    # So many of each unknown are told that its column is whole, and the right side by itself: so all stays small.
    scales = [common_multiple([row[place] for row in rows]) for place in range(len(right))]
    whole = common_multiple(right)
    grid = [[*whole_row(row, scales), *whole_row((one,), (whole,))] for row, one in zip(rows, right)]
    divisor = 1
    for place in range(len(grid)):
        pivot = pivot_place(grid, place)
        if pivot is None:
            return None
        grid[place], grid[pivot] = grid[pivot], grid[place]
        lead = grid[place]
        grid = [row if at == place else cleared(row, lead, place, divisor) for at, row in enumerate(grid)]
        divisor = lead[place]
    # All entries but those on the diagonal are 0 now, and those on it are all alike.
    return tuple([reduced(row[-1] * scale, divisor * whole) for row, scale in zip(grid, scales)])


def common_multiple(fractions):
    """The least common multiple of the d of FRACTIONS."""
    scale = 1
    for one in fractions:
        scale = lcm(scale, one[1])
    return scale


def whole_row(row, scales):
    """The list of the entries of a row, each so many times, which are whole numbers."""
    return [n * (scale // d) for (n, d), scale in zip(row, scales)]


def pivot_place(grid, place):
    """The first place from this one on of a row with an entry other than 0 in this column, None if there is none."""
    for other in range(place, len(grid)):
        if grid[other][place] != 0:
            return other
    return None


def cleared(row, lead, place, divisor):
    """A row made 0 in the column place by the row lead; each entry can be divided by the last divisor."""
    return [(lead[place] * one - row[place] * other) // divisor for one, other in zip(row, lead)]
