"""Exchanges: two parts of a ride change places, and so each ride is led to each other one."""

from oneseat.errors import BadExchange, Unlike
from oneseat.houses import need_house
from oneseat.rides import halts, steps_of
from oneseat.words import is_whole


def is_exchange(house, ride, thing):
    """Tell whether thing is an exchange of the ride."""
    stands = halts(house, ride)
    if not isinstance(thing, tuple) or len(thing) != 4:
        return False
    if not all([is_whole(place, most=len(ride)) for place in thing]):
        return False
    begin, end, other, last = thing
    if not begin < end <= other < last:
        return False
    return stands[begin] == stands[other] and stands[end] == stands[last]


def exchanged(house, ride, places):
    """Give the ride in which the two parts have changed places."""
    if not is_exchange(house, ride, places):
        raise BadExchange("these are no places of parts that may change")
    return _changed(ride, places)


def alike(ride, other):
    """Tell how many first moves two rides have alike."""
    return _alike_from(ride, other, 0)


def path(house, ride, other):
    """Give exchanges that lead from the one ride to the other, each with more first moves alike."""
    need_house(house)
    gone = steps_of(house, ride)
    sought = steps_of(house, other)
    if gone != sought:
        raise Unlike(sought // house[0])
    told = []
    stands = halts(house, ride)
    at = _alike_from(ride, other, 0)
    while at < len(other):
        places = _places(ride, stands, at, other[at])
        told.append(places)
        # Each move takes the halt ahead of it along, and the last halt stays.
        ride = _changed(ride, places)
        stands = _changed(stands, places)
        at = _alike_from(ride, other, at + 1)
    return tuple(told)


def _changed(row, places):
    """Give the row in which the two parts have changed places."""
    begin, end, other, last = places
    return row[:begin] + row[other:last] + row[end:other] + row[begin:end] + row[last:]


def _alike_from(ride, other, at):
    """Tell how many first moves two rides have alike that have so many alike."""
    most = min(len(ride), len(other))
    while at < most and ride[at] == other[at]:
        at += 1
    return at


def _places(ride, stands, at, move):
    """Give the exchange of the ride by which the move, from the halt of that number, comes there.

    The move stands further behind, at a halt on the same floor. Some floor is
    halted at between the two and behind the move too (T3), or that one itself
    is once more: up to there the parts change places.
    """
    other = at + 1
    while ride[other] != move or stands[other] != stands[at]:
        other += 1
    ahead = {stands[end]: end for end in range(at + 1, other + 1)}
    last = other + 1
    while stands[last] not in ahead:
        last += 1
    return (at, ahead[stands[last]], other, last)
