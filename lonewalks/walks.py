"""Walks: texts of steps right (r) and up (u), their places, their weights, and all of them in order."""

from lonewalks.errors import BadWalk
from lonewalks.nets import lies_on, place_behind, step_weight

# In the order in which walks are told: r stands before u.
LETTERS = "ru"


def places(net, x, y, walk):
    if not lies_on(net, x, y):
        raise BadWalk("the walk begins off the net")
    found = [(x, y)]
    for letter in walk:
        place = found[-1]
        if step_weight(net, place[0], place[1], letter) == 0:
            raise BadWalk("a step of the walk can't be gone")
        found.append(place_behind(place[0], place[1], letter))
    return found


def weight(net, x, y, walk):
    product = 1
    # The last place has no step behind it, and zip leaves it out.
    for place, letter in zip(places(net, x, y, walk), walk):
        product = product * step_weight(net, place[0], place[1], letter)
    return product


def walks(net, one, other):
    if not 0 <= one < len(net.starts) or not 0 <= other < len(net.ends):
        raise BadWalk("there is no such walker or end")
    low = net.starts[one]
    goal = (net.columns - 1, net.ends[other])
    # From the end back, so that what lies ahead of a crossing is known when its turn comes.
    ahead = {}
    for x in range(goal[0], -1, -1):
        for y in range(goal[1], low - 1, -1):
            ahead[(x, y)] = [""] if (x, y) == goal else walks_on(net, x, y, ahead)
    return ahead.get((0, low), [])


def walks_on(net, x, y, ahead):
    found = []
    for letter in LETTERS:
        if step_weight(net, x, y, letter) > 0:
            found.extend([letter + rest for rest in ahead.get(place_behind(x, y, letter), [])])
    return found
