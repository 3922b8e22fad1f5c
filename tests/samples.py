"""Nets for the tests, made by plain formulas so that each run sees the same ones."""

from lonewalks.nets import Net

SIDES = range(1, 9)


def sample_weight(x, y, turn):
    """A weight from 0 to 1000; the least and the greatest come up often."""
    return (0, 1000, 1, 7, 999, 2, 500, 3, 1, 11)[(3 * x + 7 * y + x * y + turn) % 10]


def sample_parts(columns, rows, walkers, turn=0):
    right = [[sample_weight(x, y, turn) for x in range(columns - 1)] for y in range(rows)]
    up = [[sample_weight(x, y, turn + 5) for x in range(columns)] for y in range(rows - 1)]
    # Walkers from the lowest rows to the highest ones, so that both borders' edges are used.
    return right, up, list(range(walkers)), list(range(rows - walkers, rows))


def all_sample_parts():
    for columns in SIDES:
        for rows in SIDES:
            for walkers in range(1, min(4, rows) + 1):
                yield sample_parts(columns, rows, walkers, columns + walkers)


def flat_net(columns, rows, starts, ends):
    """A net on which every step is open, each with a weight of its own."""
    right = [[2 + x + 10 * y for x in range(columns - 1)] for y in range(rows)]
    up = [[100 + x + 10 * y for x in range(columns)] for y in range(rows - 1)]
    return Net(right, up, starts, ends)
