"""Under way: which moves can be next, which of them bars the rest, and how to go on."""

from oneseat.arrows import barred_of, ends_of, left_after, left_at_first, left_by, moves_there, strays, way_on
from oneseat.errors import NotOpen
from oneseat.least import bare_or_least


def is_open(house, begun, *, rounds=None):
    """Tell whether some ride of so many rounds begins so."""
    spare = bare_or_least(house, rounds)
    return len(strays(house, left_by(house, begun, spare))) == 0


def there(house, begun, *, rounds=None):
    """Tell the moves that can be done next, None ahead of numbers, these rising."""
    spare = bare_or_least(house, rounds)
    return moves_there(house, left_by(house, begun, spare))


def barred(house, begun, *, rounds=None):
    """Tell which of the moves that are there bars the rest, none or one."""
    spare = bare_or_least(house, rounds)
    return barred_of(house, _open_left(house, begun, spare))


def left_behind(house, begun, *, rounds=None):
    """Tell the floors that the barred move leaves behind, rising, () without one."""
    spare = bare_or_least(house, rounds)
    left = _open_left(house, begun, spare)
    for move in barred_of(house, left):
        return strays(house, left_after(house, left, move))
    return ()


def goes_on(house, begun, *, rounds=None):
    """Give a ride of so many rounds that begins so."""
    spare = bare_or_least(house, rounds)
    return begun + way_on(house, _open_left(house, begun, spare))


def first_ones(house, *, rounds=None):
    """Tell the errands that are the first one taken in some ride of so many rounds, rising."""
    spare = bare_or_least(house, rounds)
    return _first_taken(house, spare)


def last_ones(house, *, rounds=None):
    """Tell the errands that are the last one taken in some ride of so many rounds, rising."""
    spare = bare_or_least(house, rounds)
    # Going backward a step is bare as often: the step behind floor F is the one ahead of floor N - F then.
    return _first_taken(_turned(house), spare[::-1])


def _open_left(house, begun, spare):
    """Give what is left behind begun; refuse what is no beginning, and with NotOpen what isn't open."""
    left = left_by(house, begun, spare)
    if strays(house, left):
        raise NotOpen("no ride begins so")
    return left


def _first_taken(house, spare):
    """Tell the errands that can be the first one taken, with steps so often bare, rising."""
    left = left_at_first(house, spare)
    told = []
    if strays(house, left):
        return ()
    # A whole round of bare steps ahead of the first errand may as well stand behind the last one.
    for _ in range(house[0]):
        here = moves_there(house, left)
        bars = barred_of(house, left)
        told.extend([move for move in here if move is not None and move not in bars])
        if None not in here or None in bars:
            break
        left = left_after(house, left, None)
    return tuple(sorted(told))


def _turned(house):
    """Give the house as it is going backward: its rides are the house's own from the last move to the first."""
    floors, start, errands = house
    told = [((floors - end) % floors, errand[1]) for errand, end in zip(errands, ends_of(house))]
    return (floors, (floors - start) % floors, tuple(told))
