"""Linear rows: solved exactly, in whole numbers."""

from math import lcm

from soldwhole.fractions import reduced


def solved(rows, right):
    """The tuple of the FRACTIONS that solve all rows, None if there are none, or several."""
    # So many of each unknown are told that its column is whole, and the right side by itself: so all stays small.
    scales = [common_multiple([row[place] for row in rows]) for place in range(len(right))]
    whole = common_multiple(right)
    grid = [[*whole_row(row, scales), *whole_row((one,), (whole,))] for row, one in zip(rows, right)]
    steps = stepped(grid)
    if steps is None:
        return None
    divisor, tops = tops_over_last(steps)
    return tuple([reduced(top * scale, divisor * whole) for top, scale in zip(tops, scales)])


def stepped(grid):
    """The rows led to such in which the first entries other than 0 stand in steps, None if there are not so many."""
    divisor = 1
    for place in range(len(grid)):
        pivot = pivot_place(grid, place)
        if pivot is None:
            return None
        grid[place], grid[pivot] = grid[pivot], grid[place]
        lead = grid[place]
        grid = grid[:place + 1] + [cleared(row, lead, place, divisor) for row in grid[place + 1:]]
        divisor = lead[place]
    return grid


def tops_over_last(steps):
    """The last step, and the list of so many times each unknown, which are whole numbers."""
    many = len(steps)
    divisor, tops = steps[-1][-2] if steps else 1, [0] * many
    for place in reversed(range(many)):
        row = steps[place]
        behind = sum([row[other] * tops[other] for other in range(place + 1, many)])
        tops[place] = (divisor * row[-1] - behind) // row[place]
    return divisor, tops


def common_multiple(fractions):
    """The least common multiple of the d of FRACTIONS."""
    scale = 1
    for one in fractions:
        scale = lcm(scale, one[1])
    return scale


def whole_row(row, scales):
    """The list of the entries of a row, each so many times, which are whole numbers."""
    return [n * (scale // d) for (n, d), scale in zip(row, scales)]


def pivot_place(grid, place):
    """The first place from this one on of a row with an entry other than 0 in this column, None if there is none."""
    for other in range(place, len(grid)):
        if grid[other][place] != 0:
            return other
    return None


def cleared(row, lead, place, divisor):
    """A row made 0 in the column place by the row lead; each entry can be divided by the last divisor."""
    factor, rest = row[place], list(zip(row, lead))[place + 1:]
    return [0] * (place + 1) + [(lead[place] * one - factor * other) // divisor for one, other in rest]
