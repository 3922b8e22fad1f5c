"""Readings of the document that share nothing with the program, for the tests to hold it against."""

import functools
import itertools
import math

from samples import small_nets


def texts(longest):
    for length in range(longest + 1):
        for letters in itertools.product("ru", repeat=length):
            yield "".join(letters)


def gone(net, x, y, walk):
    """Point 4: the places and the weight of a walk, or None where it can't be gone."""
    if x not in range(net.columns) or y not in range(net.rows):
        return None
    steps = {}
    for row, weights in enumerate(net.right):
        for column, step in enumerate(weights):
            steps[column, row, "r"] = step
    for row, weights in enumerate(net.up):
        for column, step in enumerate(weights):
            steps[column, row, "u"] = step
    found, product = [(x, y)], 1
    for letter in walk:
        product *= steps.get((x, y, letter), 0)
        x, y = (x + 1, y) if letter == "r" else (x, y + 1)
        found.append((x, y))
    return (found, product) if product else None


def searched(net, one, other):
    """Point 5: all walks from the start of walker one to end other, in order."""
    goal = (net.columns - 1, net.ends[other])
    found = []
    for walk in texts(net.columns + net.rows - 2):
        told = gone(net, 0, net.starts[one], walk)
        if told and told[0][-1] == goal:
            found.append(walk)
    # Texts of r and u stand in the order of point 5 when they stand as Python sorts them.
    return sorted(found)


def searched_companies(net):
    """Point 6: all companies, with their orders."""
    numbers = range(len(net.ends))
    found = [[searched(net, one, other) for other in numbers] for one in numbers]
    for chosen in itertools.permutations(numbers):
        choices = [found[one][other] for one, other in enumerate(chosen)]
        for company in itertools.product(*choices):
            yield list(company), list(chosen)


@functools.cache
def small_nets_searched():
    return [(net, tuple(searched_companies(net))) for net in small_nets()]


def small_nets_and_companies():
    """The small nets, each with a list of its companies and their orders, of which no two askers share one."""
    for net, found in small_nets_searched():
        yield net, [(list(company), list(chosen)) for company, chosen in found]


def order_read(net, company):
    """Point 6: the order of a company, or None where the list is none."""
    found = []
    for start, walk in zip(net.starts, company):
        told = gone(net, 0, start, walk)
        column, row = told[0][-1] if told else (-1, -1)
        found.extend(number for number, end in enumerate(net.ends) if (column, row) == (net.columns - 1, end))
    fits = len(company) == len(net.starts) == len(found) == len(set(found))
    return found if fits else None


def sign_read(chosen):
    """Point 6: each swap that brings the order nearer to 0, 1, 2 .. turns the sign."""
    chosen, told = list(chosen), 1
    for number in range(len(chosen)):
        while chosen[number] != number:
            other = chosen[number]
            chosen[number], chosen[other] = chosen[other], other
            told = -told
    return told


def meetings_read(net, company):
    """Point 7: all (walker, which of its places, other walker), the first meeting first."""
    tracks = [gone(net, 0, start, walk)[0] for start, walk in zip(net.starts, company)]
    found = []
    for (one, track), (other, met) in itertools.permutations(enumerate(tracks), 2):
        found.extend((one, which, other) for which, place in enumerate(track) if place in met)
    return sorted(found)


def first_meeting_read(net, company):
    found = meetings_read(net, company)
    if not found:
        return None
    one, which, other = found[0]
    return one, gone(net, 0, net.starts[one], company[one])[0][which], other


def weight_read(net, company):
    return math.prod(gone(net, 0, start, walk)[1] for start, walk in zip(net.starts, company))


def lone_read(net, found):
    """Point 13: of the companies that were found, the lone ones in order."""
    return sorted(company for company, chosen in found if not meetings_read(net, company))


def det_read(square):
    """Point 10, by expanding row after row: what each choice of columns has come to so far."""
    sums = {(): 1}
    for row in square:
        more = {}
        for columns, value in sums.items():
            for column, number in enumerate(row):
                if column not in columns:
                    turn = (-1) ** sum(taken > column for taken in columns)
                    key = tuple(sorted(columns + (column,)))
                    more[key] = more.get(key, 0) + turn * value * number
        sums = more
    return sums[tuple(range(len(square)))]


def lone_sum_read(net):
    """The weights of all lone companies together, the walkers taken through column after column side by side."""
    arrived = {tuple(net.starts): 1}
    for column in range(net.columns):
        climbed = {}
        for rows, value in arrived.items():
            # Each walker climbs in this column, and stays below where the next one came in.
            spans = [range(row, above) for row, above in zip(rows, rows[1:] + (net.rows,))]
            for left in itertools.product(*spans):
                steps = [net.up[y][column] for row, top in zip(rows, left) for y in range(row, top)]
                climbed[left] = climbed.get(left, 0) + value * math.prod(steps)
        if column + 1 == net.columns:
            return climbed.get(tuple(net.ends), 0)
        arrived = {rows: value * math.prod(net.right[y][column] for y in rows) for rows, value in climbed.items()}
