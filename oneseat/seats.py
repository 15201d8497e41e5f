"""Seats: several of them, one riding behind the other, each home again."""

from oneseat.arrows import bare_by, end_of, goes_from, is_taken_at, left_at_first, loads_of, lots_of, rows_left, way
from oneseat.errors import BadNumber, BadRide
from oneseat.houses import need_house
from oneseat.words import MOST_SEATS, is_whole


def seats_rounds(house, starts):
    """Tell the fewest rounds of all seats together."""
    _need_starts(house, starts)
    return max(loads_of(house)) + (1 if _lots_without(house, starts) else 0)


def rounds_together(house, starts, rides):
    """Tell the rounds of all rides together."""
    _need_starts(house, starts)
    if not isinstance(rides, tuple) or len(rides) != len(starts):
        raise BadRide()
    if not all([isinstance(ride, tuple) for ride in rides]):
        raise BadRide()
    floors, _, errands = house
    waits = [True] * len(errands)
    gone = 0
    ahead = 0
    for start, ride in zip(starts, rides):
        gone += _gone_by(house, start, ride, waits, ahead)
        ahead += len(ride)
    if any(waits):
        raise BadRide(ahead)
    return gone // floors


def seats_rides(house, starts):
    """Give a ride for each seat, with the fewest rounds together."""
    _need_starts(house, starts)
    loads = loads_of(house)
    spare = bare_by(loads, seats_rounds(house, starts))
    rows = rows_left(house, left_at_first(house, spare))
    # The first seat of each lot goes through all of it: nothing is left there for the others.
    return tuple([way(rows, start) for start in starts])


def seats_downs(house, starts):
    """Tell how few settings down there are by GREATEST rounds, loose, or None where it can't be."""
    _need_starts(house, starts)
    if house[2] and len(_idle(house, starts)) == len(starts):
        return None
    return len(_lots_without(house, starts))


def idle_ones(house, starts):
    """Tell those of the starts whose lot by GREATEST doesn't bear, rising."""
    _need_starts(house, starts)
    return tuple(_idle(house, starts))


def _need_starts(house, starts):
    """Refuse what is no house, then with BadNumber what is no rising tuple of some floors, not too many."""
    need_house(house)
    if not isinstance(starts, tuple) or not 1 <= len(starts) <= MOST_SEATS:
        raise BadNumber(starts)
    before = -1
    for floor in starts:
        if not is_whole(floor, least=before + 1, most=house[0] - 1):
            raise BadNumber(starts)
        before = floor


def _bare_by_greatest(house):
    """Tell how often each step is bare by GREATEST."""
    loads = loads_of(house)
    return bare_by(loads, max(loads))


def _lots_without(house, starts):
    """List the lots by GREATEST that bear and have none of the starts."""
    # A lot that isn't that of a start has an errand or a bare step, so it bears.
    told = lots_of(house, starts, _bare_by_greatest(house))
    return [lot for lot in told if not any([floor in starts for floor in lot])]


def _idle(house, starts):
    """List those of the starts whose lot by GREATEST doesn't bear."""
    spare = _bare_by_greatest(house)
    return [start for start in starts if not goes_from(house, start, spare)]


def _gone_by(house, start, ride, waits, ahead):
    """Tell how many steps the ride of one seat goes, and mark what it takes in waits."""
    floors, _, errands = house
    floor = start
    gone = 0
    for number, move in enumerate(ride):
        if move is None:
            gone += 1
            floor = (floor + 1) % floors
        elif is_taken_at(house, floor, waits, move):
            waits[move] = False
            gone += errands[move][1]
            floor = end_of(house, move)
        else:
            raise BadRide(ahead + number)
    if floor != start:
        raise BadRide(ahead + len(ride))
    return gone
