"""Trees, and by them how many rides there are."""

from math import factorial

from oneseat.arrows import left_at_first, left_by
from oneseat.errors import BadRows
from oneseat.least import bare_or_least
from oneseat.words import is_whole

_MOST_ROWS = 20


def determinant(rows):
    """Tell the determinant of a square of whole numbers."""
    _need_square(rows)
    return _worth(rows)


def trees(house, *, rounds=None):
    """Tell how many trees there are by so many rounds."""
    spare = bare_or_least(house, rounds)
    return _trees_left(house, _moves_between(house, left_at_first(house, spare)))


def how_many_rides(house, *, rounds=None):
    """Tell how many rides of so many rounds there are."""
    spare = bare_or_least(house, rounds)
    return ways_left(house, left_at_first(house, spare))


def rides_on(house, begun, *, rounds=None):
    """Tell how many rides of so many rounds begin so."""
    spare = bare_or_least(house, rounds)
    return ways_left(house, left_by(house, begun, spare))


def ways_left(house, left):
    """Tell in how many ways all that is left can be gone, to the start."""
    many = _moves_between(house, left)
    told = _trees_left(house, many)
    if told == 0:
        return 0
    for floor, row in enumerate(many):
        away = sum(row)
        if floor == house[1]:
            told *= factorial(away)
        elif away > 1:
            told *= factorial(away - 1)
    for often in left[1]:
        if often > 1:
            told //= factorial(often)
    return told


def _need_square(rows):
    """Refuse with BadRows what is no square of whole numbers, or too large."""
    if not isinstance(rows, tuple) or len(rows) > _MOST_ROWS:
        raise BadRows("this is no tuple of so many rows")
    for row in rows:
        if not isinstance(row, tuple) or len(row) != len(rows):
            raise BadRows("a row is no tuple of as many as there are rows")
        if not all([is_whole(number, least=None) for number in row]):
            raise BadRows("a row holds what is no whole number")


def _worth(rows):
    """Tell the determinant of the rows."""
    sign = 1
    last = 1
    # With each row stands the pivot by which it was changed last: rows that a pivot leaves alone cost nothing so.
    left = [(1, row) for row in rows]
    while left:
        at = _first_with_more(left)
        if at is None:
            return 0
        if at > 0:
            left[0], left[at] = left[at], left[0]
            sign = -sign
        by, first = left[0]
        if by != last:
            first = [number * last // by for number in first]
        left = _without_first(first, left[1:])
        last = first[0]
    return sign * last


def _first_with_more(left):
    """Tell the place of the first row that doesn't begin with 0, or None."""
    for at, (_, row) in enumerate(left):
        if row[0] != 0:
            return at
    return None


def _without_first(first, left):
    """Take the first column out of the rows that are left, by the first row.

    Dividing by the pivot of the last change leaves no rest (Bareiss), so all
    numbers stay whole and none grows beyond a minor.
    """
    pivot = first[0]
    aboves = first[1:]
    told = []
    for by, row in left:
        lead = row[0]
        if lead == 0:
            told.append((by, row[1:]))
        else:
            told.append((pivot, [(pivot * number - lead * above) // by for number, above in zip(row[1:], aboves)]))
    return told


def _moves_between(house, left):
    """List for each floor how many moves are left from it to each floor."""
    floors, _, errands = house
    _, spare, waiting = left
    told = [[0] * floors for _ in range(floors)]
    for step, often in enumerate(spare):
        told[step][(step + 1) % floors] = often
    for number in waiting:
        begin, steps = errands[number]
        told[begin][(begin + steps) % floors] += 1
    return told


def _trees_left(house, many):
    """Tell how many trees there are of the moves between floors, as many as are told."""
    inner = [floor for floor in range(house[0]) if floor != house[1] and sum(many[floor]) > 0]
    rows = []
    for floor in inner:
        row = [-many[floor][other] for other in inner]
        row[len(rows)] = sum(many[floor]) - many[floor][floor]
        rows.append(row)
    return _worth(rows)
