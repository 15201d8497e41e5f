"""Under way: which moves can be next, which of them bars the rest, and how to go on."""

from oneseat.errors import NotOpen
from oneseat.houses import ends
from oneseat.least import rounds_or_least
from oneseat.underway import left_after, left_at_first, left_by, moves_there, rows_left, strays, way


def is_open(house, begun, *, rounds=None):
    """Tell whether some ride of so many rounds begins so."""
    many = rounds_or_least(house, rounds)
    return len(strays(house, left_by(house, begun, many))) == 0


def there(house, begun, *, rounds=None):
    """Tell the moves that can be done next, None ahead of numbers, these rising."""
    many = rounds_or_least(house, rounds)
    return moves_there(house, left_by(house, begun, many))


def barred(house, begun, *, rounds=None):
    """Tell which of the moves that are there bars the rest, none or one."""
    many = rounds_or_least(house, rounds)
    left = _open_left(house, begun, many)
    return tuple(move for move in moves_there(house, left) if strays(house, left_after(house, left, move)))


def left_behind(house, begun, *, rounds=None):
    """Tell the floors that the barred move leaves behind, rising, () without one."""
    many = rounds_or_least(house, rounds)
    left = _open_left(house, begun, many)
    for move in moves_there(house, left):
        told = strays(house, left_after(house, left, move))
        if told:
            return told
    return ()


def goes_on(house, begun, *, rounds=None):
    """Give a ride of so many rounds that begins so."""
    many = rounds_or_least(house, rounds)
    left = _open_left(house, begun, many)
    return begun + way(rows_left(house, left), left[0])


def first_ones(house, *, rounds=None):
    """Tell the errands that are the first one taken in some ride of so many rounds, rising."""
    many = rounds_or_least(house, rounds)
    return _first_taken(house, many)


def last_ones(house, *, rounds=None):
    """Tell the errands that are the last one taken in some ride of so many rounds, rising."""
    many = rounds_or_least(house, rounds)
    return _first_taken(_turned(house), many)


def _open_left(house, begun, many):
    """Give what is left behind begun; refuse what is no beginning, and with NotOpen what isn't open."""
    left = left_by(house, begun, many)
    if strays(house, left):
        raise NotOpen("no ride begins so")
    return left


def _first_taken(house, many):
    """Tell the errands that can be the first one taken, rising."""
    left = left_at_first(house, many)
    told = []
    # A whole round of bare steps ahead of the first errand may as well stand behind the last one.
    for _ in range(house[0]):
        here = moves_there(house, left)
        told = told + [move for move in here if move is not None and not strays(house, left_after(house, left, move))]
        if None not in here:
            break
        left = left_after(house, left, None)
    return tuple(sorted(told))


def _turned(house):
    """Give the house as it is going backward: its rides are the house's own from the last move to the first."""
    floors, start, errands = house
    told = [((floors - end) % floors, errand[1]) for errand, end in zip(errands, ends(house))]
    return (floors, (floors - start) % floors, tuple(told))
