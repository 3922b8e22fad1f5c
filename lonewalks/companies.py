"""Companies: a walk for each walker, each to an end of its own; where the walkers meet, and the exchange there."""

from lonewalks.errors import BadCompany, BadWalk
from lonewalks.walks import places, weight


def places_of_walker(net, walker, walk):
    try:
        return places(net, 0, net.starts[walker], walk)
    except BadWalk:
        raise BadCompany("a walk of the company can't be gone from its walker's start") from None


def end_at(net, place):
    if place[0] != net.columns - 1 or place[1] not in net.ends:
        raise BadCompany("a walk of the company doesn't lead to an end")
    return net.ends.index(place[1])


def ends_taken(net, tracks):
    return [end_at(net, track[-1]) for track in tracks]


def places_of_all(net, company):
    if len(company) != len(net.starts):
        raise BadCompany("a company has one walk for each walker")
    tracks = [places_of_walker(net, walker, walk) for walker, walk in enumerate(company)]
    taken = ends_taken(net, tracks)
    if len(set(taken)) != len(taken):
        raise BadCompany("two walks of the company lead to the same end")
    return tracks


def order(net, company):
    return ends_taken(net, places_of_all(net, company))


def sign(net, company):
    taken = order(net, company)
    told = 1
    for later in range(len(taken)):
        for earlier in range(later):
            if taken[earlier] > taken[later]:
                told = -told
    return told


def product(net, company):
    tracks = places_of_all(net, company)
    told = 1
    for track, walk in zip(tracks, company):
        told = told * weight(net, track[0][0], track[0][1], walk)
    return told


def least_other(tracks, walker, place):
    for other, track in enumerate(tracks):
        if other != walker and place in track:
            return other
    return None


def first_meeting(net, company):
    tracks = places_of_all(net, company)
    for walker, track in enumerate(tracks):
        for place in track:
            other = least_other(tracks, walker, place)
            if other is not None:
                return (walker, place, other)
    return None


def steps_to(net, walker, place):
    # Each step leads one column on or one row up, so every way to a place is as long as another.
    return place[0] + place[1] - net.starts[walker]


def exchanged(net, company):
    meeting = first_meeting(net, company)
    if meeting is None:
        return None
    one = meeting[0]
    other = meeting[2]
    cut_one = steps_to(net, one, meeting[1])
    cut_other = steps_to(net, other, meeting[1])
    changed = list(company)
    changed[one] = company[one][:cut_one] + company[other][cut_other:]
    changed[other] = company[other][:cut_other] + company[one][cut_one:]
    return changed
