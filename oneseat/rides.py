"""Rides: moves that take each errand once and come back to the start."""

from oneseat.errors import BadRide
from oneseat.houses import ends, need_house
from oneseat.words import is_whole


def need_ride(house, ride):
    """Refuse with BadRide what is no ride, by the number of the first move that can't be."""
    need_house(house)
    if not isinstance(ride, tuple):
        raise BadRide()
    floors, start, errands = house
    targets = ends(house)
    taken = [False] * len(errands)
    floor = start
    for number, move in enumerate(ride):
        if move is None:
            floor = (floor + 1) % floors
        elif is_whole(move, most=len(errands) - 1) and errands[move][0] == floor and not taken[move]:
            taken[move] = True
            floor = targets[move]
        else:
            raise BadRide(number)
    if floor != start or not all(taken):
        raise BadRide(len(ride))


def is_ride(house, thing):
    """Tell whether thing is a ride of the house."""
    try:
        need_ride(house, thing)
    except BadRide:
        return False
    return True


def rounds_of(house, ride):
    """Tell the rounds of the ride."""
    need_ride(house, ride)
    return sum(_lengths(house, ride)) // house[0]


def halts(house, ride):
    """Tell the floors at which the seat stands, ahead of the first move and behind each."""
    need_ride(house, ride)
    floors, start, _ = house
    told = [start]
    for steps in _lengths(house, ride):
        told.append((told[-1] + steps) % floors)
    return tuple(told)


def taken_at(house, ride):
    """Tell for each errand, in order, how many steps are gone ahead of it."""
    need_ride(house, ride)
    told = [0] * len(house[2])
    gone = 0
    for move, steps in zip(ride, _lengths(house, ride)):
        if move is not None:
            told[move] = gone
        gone += steps
    return tuple(told)


def order_of(house, ride):
    """Tell the errands' numbers as they are taken."""
    need_ride(house, ride)
    return tuple(move for move in ride if move is not None)


def _lengths(house, ride):
    """List how many steps each move goes."""
    errands = house[2]
    return [1 if move is None else errands[move][1] for move in ride]
