"""Under way: where the seat stands, and the moves that are left.

What is left is a tuple (floor, spare, waiting): where the seat stands, how
often each step is bare yet, and the numbers of the errands that wait, rising.
"""

from oneseat.lots import bare


def left_at_first(house, many):
    """Give what is left ahead of all moves, by so many rounds."""
    _, start, errands = house
    return (start, bare(house, rounds=many), tuple(range(len(errands))))


def end_of(house, number):
    """Tell the end of the errand of that number."""
    floors, _, errands = house
    begin, steps = errands[number]
    return (begin + steps) % floors


def rows_left(house, left):
    """List for each floor the moves that are left from it, each with the floor that it leads to."""
    floors, _, errands = house
    _, spare, waiting = left
    rows = [[(None, (step + 1) % floors)] * spare[step] for step in range(floors)]
    for number in waiting:
        rows[errands[number][0]].append((number, end_of(house, number)))
    return rows


def way(rows, floor):
    """Give the moves of a way from the floor through all that hang together with it.

    There must be such a way: it goes on till it can't, and where moves were
    left out on the way it goes round through them before it comes to its end.
    """
    left = [list(row) for row in rows]
    stands = [floor]
    ahead = []
    told = []
    while stands:
        row = left[stands[-1]]
        if row:
            move, target = row.pop()
            ahead.append(move)
            stands.append(target)
        else:
            stands.pop()
            if ahead:
                told.append(ahead.pop())
    return tuple(told[::-1])
