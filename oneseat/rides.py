"""Rides: moves that take each errand once and come back to the start."""

from oneseat.arrows import ends_of, is_taken_at
from oneseat.errors import BadRide
from oneseat.houses import need_house


def steps_of(house, ride):
    """Tell how many steps a ride of a good house goes; refuse what is none by the number of the first bad move."""
    if not isinstance(ride, tuple):
        raise BadRide()
    floors, start, errands = house
    targets = ends_of(house)
    waits = [True] * len(errands)
    floor = start
    gone = 0
    for number, move in enumerate(ride):
        if move is None:
            gone += 1
            floor = (floor + 1) % floors
        elif is_taken_at(house, floor, waits, move):
            waits[move] = False
            gone += errands[move][1]
            floor = targets[move]
        else:
            raise BadRide(number)
    if floor != start or any(waits):
        raise BadRide(len(ride))
    return gone


def is_ride(house, thing):
    """Tell whether thing is a ride of the house."""
    need_house(house)
    try:
        steps_of(house, thing)
    except BadRide:
        return False
    return True


def rounds_of(house, ride):
    """Tell the rounds of the ride."""
    need_house(house)
    return steps_of(house, ride) // house[0]


def halts(house, ride):
    """Tell the floors at which the seat stands, ahead of the first move and behind each."""
    need_house(house)
    steps_of(house, ride)
    floors, start, _ = house
    told = [start]
    for steps in _lengths(house, ride):
        told.append((told[-1] + steps) % floors)
    return tuple(told)


def taken_at(house, ride):
    """Tell for each errand, in order, how many steps are gone ahead of it."""
    need_house(house)
    steps_of(house, ride)
    told = [0] * len(house[2])
    gone = 0
    for move, steps in zip(ride, _lengths(house, ride)):
        if move is not None:
            told[move] = gone
        gone += steps
    return tuple(told)


def order_of(house, ride):
    """Tell the errands' numbers as they are taken."""
    need_house(house)
    steps_of(house, ride)
    return tuple([move for move in ride if move is not None])


def _lengths(house, ride):
    """List how many steps each move goes."""
    errands = house[2]
    return [1 if move is None else errands[move][1] for move in ride]
