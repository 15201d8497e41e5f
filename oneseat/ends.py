"""Ends: the seat that needn't come home, other starts, one errand more, and many days."""

from oneseat.arrows import bare_by, bare_ones, carried, joined_by, least_of, left_at_first, loads_of, lots_of, way_on
from oneseat.errors import BadErrand, TooMany
from oneseat.houses import need_house
from oneseat.words import MOST_ERRANDS, is_errand, need_whole

_MOST_DAYS = 10 ** 30


def end_steps(house, floor):
    """Tell the fewest steps to do all and end on the floor."""
    need_house(house)
    need_whole(floor, most=house[0] - 1)
    return house[0] * least_of(_led_home(house, floor))[0] - _steps_home(house, floor)


def end_row(house, floor):
    """Give moves of the fewest steps that do all and end on the floor."""
    need_house(house)
    need_whole(floor, most=house[0] - 1)
    more = _led_home(house, floor)
    told = way_on(more, left_at_first(more, least_of(more)[1]))
    number = len(house[2])
    if number not in told:
        return told
    # What comes behind the errand more begins at the start, and comes back to it: so it may as well be gone first.
    at = told.index(number)
    return told[at + 1:] + told[:at]


def best_ends(house):
    """Tell the fewest steps to do all, ending anywhere, and the floors where so few do, rising."""
    need_house(house)
    floors, start, _ = house
    loads = loads_of(house)
    known = _joined_by_errands(house)
    told = []
    for floor in range(floors):
        home = _steps_home(house, floor)
        # From floor F on that many steps the errand more lies over; at the start there's none, nor any step.
        more = [load + (1 if (step - floor) % floors < home else 0) for step, load in enumerate(loads)]
        told.append(floors * _rounds_with(house, known, more, (floor, start)) - home)
    fewest = min(told)
    return fewest, tuple([floor for floor, steps in enumerate(told) if steps == fewest])


def good_starts(house):
    """Tell the floors by which, as start, GREATEST rounds do, rising."""
    need_house(house)
    loads = loads_of(house)
    told = lots_of(house, (), bare_by(loads, max(loads)))
    if not told:
        return tuple(range(house[0]))
    return told[0] if len(told) == 1 else ()


def cost_of(house, errand):
    """Tell how many rounds more the errand costs."""
    need_house(house)
    floors, start, errands = house
    if not is_errand(errand, floors=floors) or errand[1] > floors:
        raise BadErrand("this is no errand of at most one round of this ring")
    _need_room(house)
    return least_of((floors, start, errands + (errand,)))[0] - least_of(house)[0]


def free_errands(house):
    """Tell the errands of one round at the most that cost no round more, rising."""
    need_house(house)
    _need_room(house)
    floors = house[0]
    least = least_of(house)[0]
    known = _joined_by_errands(house)
    told = []
    for begin in range(floors):
        more = loads_of(house)
        for steps in range(1, floors + 1):
            last = (begin + steps - 1) % floors
            more[last] += 1
            if more[last] > least:
                break
            if _rounds_with(house, known, more, (begin, (last + 1) % floors)) <= least:
                told.append((begin, steps))
    return tuple(told)


def days(house, many):
    """Tell the least rounds of the same errands so many times over."""
    need_house(house)
    need_whole(many, least=1, most=_MOST_DAYS)
    most = max(loads_of(house))
    return many * most + least_of(house)[0] - most


def _need_room(house):
    """Refuse with TooMany a house that has no room for one errand more."""
    if len(house[2]) == MOST_ERRANDS:
        raise TooMany(MOST_ERRANDS)


def _led_home(house, floor):
    """Give the house with an errand more from the floor to the start, none if the floor is the start."""
    floors, start, errands = house
    if floor == start:
        return house
    return (floors, start, errands + ((floor, (start - floor) % floors),))


def _steps_home(house, floor):
    """Tell how many steps lead from the floor to the start, none if it's that one."""
    return (house[1] - floor) % house[0]


def _joined_by_errands(house):
    """Give for each floor the mask of those that errands join it to, and the mask of all their floors."""
    return joined_by(carried(house), [1 << floor for floor in range(house[0])], 0)


def _rounds_with(house, known, loads, arrow):
    """Tell the least rounds of the house with an errand more, by which steps have these loads.

    Known is what its own errands join and touch, arrow both floors of the one more.
    """
    many = max(loads)
    joined, seen = known
    start = house[1]
    if joined[start] == (1 << house[0]) - 1:
        return many
    joined, seen = joined_by([arrow] + bare_ones(bare_by(loads, many)), joined, seen)
    return many if seen & ~joined[start] == 0 else many + 1
