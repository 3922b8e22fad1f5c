"""Numbers: the lone companies in order, told by their numbers without going through those ahead."""

from lonewalks.companies import first_meeting
from lonewalks.counts import how_many
from lonewalks.errors import BadCompany, NoNumber
from lonewalks.nets import Net, place_behind, step_weight
from lonewalks.walks import places


def without_step(net, place, letter):
    x = place[0]
    y = place[1]
    right = [list(weights) for weights in net.right]
    up = [list(weights) for weights in net.up]
    if step_weight(net, x, y, letter) > 0:
        steps = right if letter == "r" else up
        steps[y][x] = 0
    return Net(right, up, net.starts, net.ends)


def with_only_step(net, place, letter):
    # Where one walker has come to the place, the others can't pass it in a lone company:
    # so the lone companies of this net are those of the net in which that walker takes the step.
    return without_step(net, place, "u" if letter == "r" else "r")


def how_many_go_right(net, place):
    return how_many(with_only_step(net, place, "r"))


class Search:
    # The net keeps the lone companies that go as was chosen so far; the number counts among these.
    def __init__(self, net, number):
        self.net = net
        self.number = number

    def choose(self, place):
        count = how_many_go_right(self.net, place)
        if self.number < count:
            letter = "r"
        else:
            letter = "u"
            self.number = self.number - count
        self.net = with_only_step(self.net, place, letter)
        return letter


def walk_found(search, start, length):
    walk = ""
    place = (0, start)
    while len(walk) < length:
        letter = search.choose(place)
        walk = walk + letter
        place = place_behind(place[0], place[1], letter)
    return walk


def company_at(net, number):
    if not 0 <= number < how_many(net):
        raise NoNumber("there is no lone company of that number")
    search = Search(net, number)
    company = []
    for start, end in zip(net.starts, net.ends):
        # In a lone company each walker comes to the end of its own number, and all ways there are equally long.
        company.append(walk_found(search, start, net.columns - 1 + end - start))
    return company


def number_of(net, company):
    if first_meeting(net, company) is not None:
        raise BadCompany("some walkers of the company meet")
    number = 0
    left = net
    for start, walk in zip(net.starts, company):
        for place, letter in zip(places(net, 0, start, walk), walk):
            if letter == "u":
                number = number + how_many_go_right(left, place)
            left = with_only_step(left, place, letter)
    return number
