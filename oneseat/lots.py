"""Lots: floors that hang together by errands and bare steps."""

from oneseat.arrows import bare_by, ends_of, goes_from, loads_of, lot_with, lots_of
from oneseat.errors import TooFew
from oneseat.houses import need_house
from oneseat.words import MOST_ROUNDS, need_whole


def bare(house, *, rounds=None):
    """Tell how often each step is bare."""
    need_house(house)
    loads = loads_of(house)
    least = max(loads)
    if rounds is None:
        return bare_by(loads, least)
    need_whole(rounds, most=MOST_ROUNDS)
    if rounds < least:
        raise TooFew(least)
    return bare_by(loads, rounds)


def touched(house, *, rounds=None):
    """Tell the touched floors, rising."""
    spare = bare(house, rounds=rounds)
    floors, start, errands = house
    seen = [often > 0 or spare[step - 1] > 0 for step, often in enumerate(spare)]
    seen[start] = True
    for errand, end in zip(errands, ends_of(house)):
        seen[errand[0]] = True
        seen[end] = True
    return tuple([floor for floor in range(floors) if seen[floor]])


def lots(house, *, rounds=None):
    """Tell the lots, rising."""
    return tuple(_lots_by(house, bare(house, rounds=rounds)))


def lot_of(house, floor, *, rounds=None):
    """Tell the lot of the floor, () where it isn't touched."""
    spare = bare(house, rounds=rounds)
    need_whole(floor, most=house[0] - 1)
    return lot_with(_lots_by(house, spare), floor)


def lot_rounds(house, *, rounds=None):
    """Tell how often each lot goes round by itself."""
    spare = bare(house, rounds=rounds)
    gone = list(spare)
    for begin, steps in house[2]:
        gone[begin] += steps
    return tuple([sum([gone[floor] for floor in lot]) // house[0] for lot in _lots_by(house, spare)])


def bears(house, *, rounds=None):
    """Tell whether the lot of the start bears."""
    spare = bare(house, rounds=rounds)
    return goes_from(house, house[1], spare)


def _lots_by(house, spare):
    """List the lots of the house, with steps so often bare."""
    return lots_of(house, (house[1],), spare)
