"""Lots: floors that hang together by errands and bare steps."""

from oneseat.errors import TooFew
from oneseat.houses import ends, greatest, loads, need_house
from oneseat.words import MOST_ROUNDS, need_whole


def rounds_or_greatest(house, rounds):
    """Give the rounds asked for, GREATEST for None; refuse no number of rounds, and too few."""
    need_house(house)
    least = greatest(house)
    if rounds is None:
        return least
    need_whole(rounds, most=MOST_ROUNDS)
    if rounds < least:
        raise TooFew(least)
    return rounds


def bare(house, *, rounds=None):
    """Tell how often each step is bare."""
    many = rounds_or_greatest(house, rounds)
    return tuple(many - load for load in loads(house))


def touched(house, *, rounds=None):
    """Tell the touched floors, rising."""
    many = rounds_or_greatest(house, rounds)
    start = house[1]
    seen = {start}
    for begin, end in _links(house, many):
        seen.add(begin)
        seen.add(end)
    return tuple(sorted(seen))


def lots(house, *, rounds=None):
    """Tell the lots, rising."""
    many = rounds_or_greatest(house, rounds)
    names = list(range(house[0]))
    for begin, end in _links(house, many):
        old, new = names[end], names[begin]
        names = [new if name == old else name for name in names]
    told = {}
    for floor in touched(house, rounds=many):
        told.setdefault(names[floor], []).append(floor)
    return tuple([tuple(lot) for lot in told.values()])


def lot_of(house, floor, *, rounds=None):
    """Tell the lot of the floor, () where it isn't touched."""
    told = lots(house, rounds=rounds)
    need_whole(floor, most=house[0] - 1)
    for lot in told:
        if floor in lot:
            return lot
    return ()


def lot_rounds(house, *, rounds=None):
    """Tell how often each lot goes round by itself."""
    many = rounds_or_greatest(house, rounds)
    gone = _steps_from(house, many)
    return tuple([sum([gone[floor] for floor in lot]) // house[0] for lot in lots(house, rounds=many)])


def bears(house, *, rounds=None):
    """Tell whether the lot of the start bears."""
    many = rounds_or_greatest(house, rounds)
    # As many moves come to each floor as go from it, so a lot that bears has some from each of its floors.
    return _steps_from(house, many)[house[1]] > 0


def _steps_from(house, many):
    """List how many steps are gone in all by the moves from each floor, by so many rounds."""
    told = list(bare(house, rounds=many))
    for begin, steps in house[2]:
        told[begin] += steps
    return told


def _links(house, many):
    """List both floors of each errand, and of each step that is bare by so many rounds."""
    floors, _, errands = house
    carried = [(errand[0], end) for errand, end in zip(errands, ends(house))]
    spare = bare(house, rounds=many)
    return carried + [(step, (step + 1) % floors) for step in range(floors) if spare[step] > 0]
