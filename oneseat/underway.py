"""Under way: where the seat stands, and the moves that are left.

What is left is a tuple (floor, spare, waiting): where the seat stands, how
often each step is bare yet, and the numbers of the errands that wait, rising.
"""

from oneseat.errors import BadRide
from oneseat.lots import bare
from oneseat.words import is_whole


def left_at_first(house, many):
    """Give what is left ahead of all moves, by so many rounds."""
    _, start, errands = house
    return (start, bare(house, rounds=many), tuple(range(len(errands))))


def end_of(house, number):
    """Tell the end of the errand of that number."""
    floors, _, errands = house
    begin, steps = errands[number]
    return (begin + steps) % floors


def is_there(house, left, move):
    """Tell whether the move, of whatever kind it is, can be the next one."""
    floor, spare, waiting = left
    if move is None:
        return spare[floor] > 0
    return is_whole(move) and move in waiting and house[2][move][0] == floor


def moves_there(house, left):
    """Tell the moves that can be the next one, None ahead of numbers, these rising."""
    return tuple(move for move in (None,) + left[2] if is_there(house, left, move))


def left_after(house, left, move):
    """Give what is left behind a move that can be the next one."""
    floor, spare, waiting = left
    if move is None:
        fewer = spare[:floor] + (spare[floor] - 1,) + spare[floor + 1:]
        return ((floor + 1) % house[0], fewer, waiting)
    return (end_of(house, move), spare, tuple(number for number in waiting if number != move))


def left_by(house, begun, many):
    """Give what is left behind begun, by so many rounds; refuse with BadRide what is no beginning."""
    if not isinstance(begun, tuple):
        raise BadRide()
    left = left_at_first(house, many)
    for number, move in enumerate(begun):
        if not is_there(house, left, move):
            raise BadRide(number)
        left = left_after(house, left, move)
    return left


def strays(house, left):
    """Tell the floors from which moves are left that by none of these lead to the start, rising.

    Just where there is none, some way home goes through all that is left: as
    many moves come to each floor as go from it, but for where that way begins
    and ends.
    """
    floors, start, errands = house
    _, spare, waiting = left
    leads = [(step, (step + 1) % floors) for step in range(floors) if spare[step] > 0]
    leads = leads + [(errands[number][0], end_of(house, number)) for number in waiting]
    home = [False] * floors
    found = [start]
    while found:
        for floor in found:
            home[floor] = True
        found = [begin for begin, end in leads if home[end] and not home[begin]]
    return tuple(sorted(set([lead[0] for lead in leads if not home[lead[0]]])))


def rows_left(house, left):
    """List for each floor the moves that are left from it, each with the floor that it leads to."""
    floors, _, errands = house
    _, spare, waiting = left
    rows = [[(None, (step + 1) % floors)] * spare[step] for step in range(floors)]
    for number in waiting:
        rows[errands[number][0]].append((number, end_of(house, number)))
    return rows


def way(rows, floor):
    """Give the moves of a way from the floor through all that hang together with it.

    There must be such a way: it goes on till it can't, and where moves were
    left out on the way it goes round through them before it comes to its end.
    """
    left = [list(row) for row in rows]
    stands = [floor]
    ahead = []
    told = []
    while stands:
        row = left[stands[-1]]
        if row:
            move, target = row.pop()
            ahead.append(move)
            stands.append(target)
        else:
            stands.pop()
            if ahead:
                told.append(ahead.pop())
    return tuple(told[::-1])
