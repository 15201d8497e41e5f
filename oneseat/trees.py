"""Trees, and by them how many rides there are."""

from math import factorial

from oneseat.errors import BadRows
from oneseat.least import rounds_or_least
from oneseat.underway import left_at_first, left_by, rows_left
from oneseat.words import is_whole

_MOST_ROWS = 20


def determinant(rows):
    """Tell the determinant of a square of whole numbers."""
    _need_square(rows)
    left = [list(row) for row in rows]
    sign = 1
    last = 1
    while left:
        at = _first_with_more(left)
        if at is None:
            return 0
        if at > 0:
            left[0], left[at] = left[at], left[0]
            sign = -sign
        pivot = left[0][0]
        left = _without_first(left, last)
        last = pivot
    return sign * last


def trees(house, *, rounds=None):
    """Tell how many trees there are by so many rounds."""
    many = rounds_or_least(house, rounds)
    return _trees_left(house, _moves_between(house, left_at_first(house, many)))


def how_many_rides(house, *, rounds=None):
    """Tell how many rides of so many rounds there are."""
    many = rounds_or_least(house, rounds)
    return _rides_left(house, left_at_first(house, many))


def rides_on(house, begun, *, rounds=None):
    """Tell how many rides of so many rounds begin so."""
    many = rounds_or_least(house, rounds)
    return _rides_left(house, left_by(house, begun, many))


def _need_square(rows):
    """Refuse with BadRows what is no square of whole numbers, or too large."""
    if not isinstance(rows, tuple) or len(rows) > _MOST_ROWS:
        raise BadRows("this is no tuple of so many rows")
    for row in rows:
        if not isinstance(row, tuple) or len(row) != len(rows):
            raise BadRows("a row is no tuple of as many as there are rows")
        if not all([is_whole(number, least=None) for number in row]):
            raise BadRows("a row holds what is no whole number")


def _first_with_more(rows):
    """Tell the place of the first row that doesn't begin with 0, or None."""
    for at, row in enumerate(rows):
        if row[0] != 0:
            return at
    return None


def _without_first(rows, last):
    """Take the first row and the first column away, so that the determinant of what is left stays in reach.

    Dividing by the last pivot leaves no rest (Bareiss), so all numbers stay whole and none grows beyond a minor.
    """
    first = rows[0]
    return [
        [(first[0] * number - row[0] * above) // last for number, above in zip(row[1:], first[1:])] for row in rows[1:]
    ]


def _moves_between(house, left):
    """List for each floor how many moves are left from it to each floor."""
    floors = house[0]
    told = [[0] * floors for _ in range(floors)]
    for floor, row in enumerate(rows_left(house, left)):
        for move in row:
            told[floor][move[1]] += 1
    return told


def _trees_left(house, many):
    """Tell how many trees there are of the moves between floors, as many as are told."""
    inner = [floor for floor in range(house[0]) if floor != house[1] and sum(many[floor]) > 0]
    rows = []
    for floor in inner:
        away = sum(many[floor]) - many[floor][floor]
        rows.append(tuple(away if other == floor else -many[floor][other] for other in inner))
    return determinant(tuple(rows))


def _rides_left(house, left):
    """Tell in how many ways all that is left can be gone."""
    many = _moves_between(house, left)
    told = _trees_left(house, many)
    for floor, row in enumerate(many):
        away = sum(row)
        if floor == house[1]:
            told *= factorial(away)
        elif away > 0:
            told *= factorial(away - 1)
    for often in left[1]:
        told //= factorial(often)
    return told
