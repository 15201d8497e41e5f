"""Houses: a ring, where the seat starts, and the errands that wait."""

from oneseat.arrows import ends_of, loads_of
from oneseat.errors import BadErrand, BadHouse, TooMany
from oneseat.words import MOST_ERRANDS, MOST_FLOORS, is_errand, is_whole, need_whole


def is_house(thing):
    """Tell whether thing is a house."""
    try:
        need_house(thing)
    except BadHouse:
        return False
    return True


def need_house(house):
    """Refuse with BadHouse what is no house, by the first place that isn't so."""
    if not isinstance(house, tuple) or len(house) != 3:
        raise BadHouse()
    floors, start, errands = house
    if not is_whole(floors, least=2, most=MOST_FLOORS):
        raise BadHouse("floors")
    if not is_whole(start, most=floors - 1):
        raise BadHouse("start")
    if not isinstance(errands, tuple) or len(errands) > MOST_ERRANDS:
        raise BadHouse("errands")
    for number, errand in enumerate(errands):
        if not is_errand(errand, floors=floors):
            raise BadHouse(number)


def ends(house):
    """Tell the end of each errand, in order."""
    need_house(house)
    return tuple(ends_of(house))


def loads(house):
    """Tell the load of each step."""
    need_house(house)
    return tuple(loads_of(house))


def lies_over(house, number):
    """Tell how often the errand of that number lies over each step."""
    need_house(house)
    floors, _, errands = house
    need_whole(number, most=len(errands) - 1)
    begin, steps = errands[number]
    rounds, rest = divmod(steps, floors)
    return tuple([rounds + (1 if (step - begin) % floors < rest else 0) for step in range(floors)])


def greatest(house):
    """Tell the greatest load, 0 without errands."""
    return max(loads(house))


def with_errand(house, errand):
    """Give the house with one errand more, behind all others."""
    need_house(house)
    floors, start, errands = house
    if not is_errand(errand, floors=floors):
        raise BadErrand("this is no errand of this ring")
    if len(errands) == MOST_ERRANDS:
        raise TooMany(MOST_ERRANDS)
    return (floors, start, errands + (errand,))


def without(house, number):
    """Give the house without the errand of that number."""
    need_house(house)
    floors, start, errands = house
    need_whole(number, most=len(errands) - 1)
    return (floors, start, errands[:number] + errands[number + 1:])


def started(house, floor):
    """Give the house with that floor as its start."""
    need_house(house)
    floors, _, errands = house
    need_whole(floor, most=floors - 1)
    return (floors, floor, errands)


def rolled(house, many):
    """Give the house with each floor called by so many more, round the ring."""
    need_house(house)
    floors, start, errands = house
    need_whole(many, least=None)
    moved = tuple(((begin + many) % floors, steps) for begin, steps in errands)
    return (floors, (start + many) % floors, moved)
