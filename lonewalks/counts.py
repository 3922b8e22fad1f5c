"""Counts: the table of a net, determinants, and by them the weight and the number of all lone companies."""

from lonewalks.nets import Net


def climbed(net, x, arrived):
    # What comes from the left is known; what comes from below is added from the lowest row up.
    sums = [arrived[0]]
    for y in range(1, net.rows):
        sums.append(arrived[y] + sums[y - 1] * net.up[y - 1][x])
    return sums


def sums_on_last_column(net, start):
    sums = climbed(net, 0, [1 if y == start else 0 for y in range(net.rows)])
    for x in range(1, net.columns):
        arrived = [sums[y] * net.right[y][x - 1] for y in range(net.rows)]
        sums = climbed(net, x, arrived)
    return sums


def table(net):
    found = []
    for start in net.starts:
        sums = sums_on_last_column(net, start)
        found.append([sums[end] for end in net.ends])
    return found


def first_row_to_use(rows):
    for number, row in enumerate(rows):
        if row[0] != 0:
            return number
    return None


def reduced(row, top, divisor):
    return [(top[0] * row[k] - row[0] * top[k]) // divisor for k in range(1, len(row))]


def det(square):
    # Bareiss' way: each division by the step before's first number comes out even, so all stays whole.
    rows = list(square)
    turn = 1
    last = 1
    while len(rows) > 0:
        number = first_row_to_use(rows)
        if number is None:
            return 0
        # The row goes to the top past as many others as stood above it, and each of these turns the sign.
        if number % 2 == 1:
            turn = -turn
        top = rows.pop(number)
        rows = [reduced(row, top, last) for row in rows]
        last = top[0]
    return turn * last


def lone_weight(net):
    return det(table(net))


def ones_for_open(weights):
    return [min(weight, 1) for weight in weights]


def how_many(net):
    right = [ones_for_open(weights) for weights in net.right]
    up = [ones_for_open(weights) for weights in net.up]
    return lone_weight(Net(right, up, net.starts, net.ends))
