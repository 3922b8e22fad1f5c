"""Nets for the tests, made by plain formulas so that each run sees the same ones."""

import itertools

from lonewalks.nets import Net

SIDES = range(1, 9)


def sample_weight(x, y, turn):
    """A weight from 0 to 1000; the least and the greatest come up often."""
    return (0, 1000, 1, 7, 999, 2, 500, 3, 1, 11)[(3 * x + 7 * y + x * y + turn) % 10]


def sample_parts(columns, rows, walkers, turn=0):
    right = [[sample_weight(x, y, turn) for x in range(columns - 1)] for y in range(rows)]
    up = [[sample_weight(x, y, turn + 5) for x in range(columns)] for y in range(rows - 1)]
    # Walkers from the lowest rows to the highest ones, so that both borders' edges are used.
    return right, up, list(range(walkers)), list(range(rows - walkers, rows))


def all_sample_parts():
    for columns in SIDES:
        for rows in SIDES:
            for walkers in range(1, min(4, rows) + 1):
                yield sample_parts(columns, rows, walkers, columns + walkers)


def flat_net(columns, rows, starts, ends):
    """A net on which every step is open, each with a weight of its own."""
    right = [[2 + x + 10 * y for x in range(columns - 1)] for y in range(rows)]
    up = [[100 + x + 10 * y for x in range(columns)] for y in range(rows - 1)]
    return Net(right, up, starts, ends)


def borders(rows, most):
    """All pairs of starts and ends for up to that many walkers."""
    for walkers in range(1, min(most, rows) + 1):
        chosen = [list(border) for border in itertools.combinations(range(rows), walkers)]
        yield from itertools.product(chosen, chosen)


def small_nets():
    """Nets whose companies a test can go through one by one, with every choice of starts and ends."""
    for columns, rows in itertools.product(range(1, 5), range(1, 5)):
        for number, (starts, ends) in enumerate(borders(rows, 4)):
            yield flat_net(columns, rows, starts, ends)
            for turn in (number, number + 3, number + 7):
                yield Net(*sample_parts(columns, rows, 1, turn)[:2], starts, ends)
    yield flat_net(5, 4, [0, 1], [2, 3])
    yield flat_net(4, 5, [0, 1, 2], [2, 3, 4])
    yield from nets_with_every_choice_closed()


def nets_with_every_choice_closed():
    """Two walkers on two columns and three rows, each of the seven steps open or closed."""
    for shut in itertools.product((0, 6), repeat=7):
        right, up = [[shut[0]], [shut[1]], [shut[2]]], [list(shut[3:5]), list(shut[5:7])]
        for starts, ends in (([0, 1], [1, 2]), ([0, 1], [0, 2]), ([0, 2], [1, 2])):
            yield Net(right, up, starts, ends)


def great_nets():
    """Nets of up to 8 columns, 8 rows and 4 walkers, too great for going through their companies."""
    for columns, rows, starts, ends in (
        (8, 8, [0, 1, 2, 3], [4, 5, 6, 7]), (8, 8, [0, 2, 4, 6], [1, 3, 5, 7]), (8, 8, [0, 1, 2, 3], [0, 2, 5, 7]),
        (8, 8, [0, 3], [4, 7]), (8, 8, [0], [7]), (8, 8, [0, 1, 4], [3, 6, 7]), (7, 8, [0, 1, 2, 4], [3, 4, 6, 7]),
        (8, 7, [0, 1, 3], [2, 5, 6]), (2, 8, [0, 2, 4, 6], [1, 3, 5, 7]), (8, 5, [0, 1, 2, 3], [1, 2, 3, 4]),
    ):
        yield flat_net(columns, rows, starts, ends)
        # Few steps are closed, so that ways are left over.
        right = [[0 if (x * 5 + y * 3) % 17 == 4 else 1 + x * y for x in range(columns - 1)] for y in range(rows)]
        up = [[0 if (x * 3 + y * 7) % 13 == 2 else 1000 - x - y for x in range(columns)] for y in range(rows - 1)]
        yield Net(right, up, starts, ends)


def parts_of(net):
    return [[list(weights) for weights in net.right], [list(weights) for weights in net.up],
            list(net.starts), list(net.ends), net.columns, net.rows]
