"""Nets: crossings in columns and rows, the weights of the steps between them, walkers and ends."""

from lonewalks.errors import BadNet

MOST_SIDE = 8
MOST_WEIGHT = 1000
MOST_WALKERS = 4


def check_side(length):
    if not 1 <= length <= MOST_SIDE:
        raise BadNet("a net has 1 to 8 columns and 1 to 8 rows")


def check_steps(lists, count, length):
    if len(lists) != count:
        raise BadNet("there are too many or too few lists of steps")
    for weights in lists:
        if len(weights) != length:
            raise BadNet("a list of steps is too long or too short")
        if not all([0 <= weight <= MOST_WEIGHT for weight in weights]):
            raise BadNet("a step has a weight from 0 to 1000")


def check_border(chosen, rows):
    if not 1 <= len(chosen) <= MOST_WALKERS:
        raise BadNet("a net has 1 to 4 walkers and ends")
    # Rising from just below the net, so that one comparison also refuses rows below 0.
    last = -1
    for row in chosen:
        if not last < row < rows:
            raise BadNet("starts and ends are rising rows of the net")
        last = row


class Net:
    def __init__(self, right, up, starts, ends):
        # The rows come first: without one there is no list to tell the columns.
        check_side(len(right))
        rows = len(right)
        columns = len(right[0]) + 1
        check_side(columns)
        check_steps(right, rows, columns - 1)
        check_steps(up, rows - 1, columns)
        check_border(starts, rows)
        check_border(ends, rows)
        if len(starts) != len(ends):
            raise BadNet("there are as many ends as walkers")
        self.right = [list(weights) for weights in right]
        self.up = [list(weights) for weights in up]
        self.starts = list(starts)
        self.ends = list(ends)
        self.columns = columns
        self.rows = rows


def lies_on(net, x, y):
    return 0 <= x < net.columns and 0 <= y < net.rows


def step_weight(net, x, y, letter):
    if letter == "r" and x + 1 < net.columns:
        return net.right[y][x]
    if letter == "u" and y + 1 < net.rows:
        return net.up[y][x]
    # A step that leads off the net, or is none at all, can be gone as little as a closed one.
    return 0


def place_behind(x, y, letter):
    return (x + 1, y) if letter == "r" else (x, y + 1)
