"""Arrows: what the files ask of houses that they have looked at already.

Nothing here refuses a house. Errands are arrows, from their floors to their
ends, and so is each step as often as it's bare. What is left is a tuple
(floor, spare, waiting): where the seat stands, how often each step is bare
yet, and the numbers of the errands that wait, rising.
"""

from oneseat.errors import BadRide


def ends_of(house):
    """List the end of each errand."""
    floors, _, errands = house
    return [(begin + steps) % floors for begin, steps in errands]


def loads_of(house):
    """List the load of each step."""
    floors, _, errands = house
    over = 0
    turns = [0] * floors
    for begin, steps in errands:
        end = begin + steps
        # Each errand comes from the last step to the first one as often as this tells.
        over += end // floors
        turns[begin] += 1
        turns[end % floors] -= 1
    told = []
    for turn in turns:
        over += turn
        told.append(over)
    return told


def bare_by(loads, many):
    """Tell how often each step is bare by so many rounds."""
    return tuple([many - load for load in loads])


def joined_by(arrows, joined, seen):
    """Give for each floor the mask of those that arrows join it to, and the mask of all that they touch.

    In a mask the bit of floor F is 1 << F. Joined and seen are what others join and touch already.
    """
    for begin, end in arrows:
        seen |= 1 << begin | 1 << end
        if joined[begin] != joined[end]:
            both = joined[begin] | joined[end]
            joined = [both if mask & both else mask for mask in joined]
    return joined, seen


def carried(house):
    """List both floors of each errand."""
    floors, _, errands = house
    return [(begin, (begin + steps) % floors) for begin, steps in errands]


def bare_ones(spare):
    """List both floors of each step that is bare."""
    floors = len(spare)
    return [(step, (step + 1) % floors) for step, often in enumerate(spare) if often > 0]


def lots_of(house, marks, spare):
    """List the lots of the marked floors and of all that errands and bare steps join, rising."""
    singles = [1 << floor for floor in range(house[0])]
    marked = sum([1 << mark for mark in marks])
    joined, seen = joined_by(carried(house) + bare_ones(spare), singles, marked)
    told = {}
    for floor in range(house[0]):
        if seen >> floor & 1:
            told.setdefault(joined[floor], []).append(floor)
    return [tuple(lot) for lot in told.values()]


def lot_with(told, floor):
    """Give the one of the lots that are told in which the floor is, () where it's in none."""
    for lot in told:
        if floor in lot:
            return lot
    return ()


def goes_from(house, floor, spare):
    """Tell whether some errand or bare step goes from the floor.

    As many arrows come to each floor as go from it, so a lot that bears has some from each of its floors.
    """
    return spare[floor] > 0 or floor in [errand[0] for errand in house[2]]


def least_of(house):
    """Tell the least rounds, and how often each step is bare by them."""
    loads = loads_of(house)
    many = max(loads)
    spare = bare_by(loads, many)
    if len(lots_of(house, (house[1],), spare)) > 1:
        return many + 1, bare_by(loads, many + 1)
    return many, spare


def left_at_first(house, spare):
    """Give what is left ahead of all moves, with steps so often bare."""
    return (house[1], spare, tuple(range(len(house[2]))))


def end_of(house, number):
    """Tell the end of the errand of that number."""
    begin, steps = house[2][number]
    return (begin + steps) % house[0]


def moves_there(house, left):
    """Tell the moves that can be the next one, None ahead of numbers, these rising."""
    floor, spare, waiting = left
    errands = house[2]
    here = [number for number in waiting if errands[number][0] == floor]
    return (None, *here) if spare[floor] > 0 else tuple(here)


def left_after(house, left, move):
    """Give what is left behind a move that can be the next one."""
    floor, spare, waiting = left
    if move is None:
        fewer = spare[:floor] + (spare[floor] - 1,) + spare[floor + 1:]
        return ((floor + 1) % house[0], fewer, waiting)
    return (end_of(house, move), spare, tuple([number for number in waiting if number != move]))


def left_by(house, begun, spare):
    """Give what is left behind begun, with steps so often bare at first; refuse with BadRide what is no beginning."""
    if not isinstance(begun, tuple):
        raise BadRide()
    floors, floor, errands = house
    often = list(spare)
    waits = [True] * len(errands)
    for number, move in enumerate(begun):
        if move is None and often[floor] > 0:
            often[floor] -= 1
            floor = (floor + 1) % floors
        elif is_taken_at(house, floor, waits, move):
            waits[move] = False
            floor = end_of(house, move)
        else:
            raise BadRide(number)
    return (floor, tuple(often), tuple([number for number, wait in enumerate(waits) if wait]))


def is_taken_at(house, floor, waits, move):
    """Tell whether the move, of whatever kind it is, is the number of an errand that waits on the floor."""
    # True and False are no numbers, though Python counts them among the ints.
    if not isinstance(move, int) or move is True or move is False:
        return False
    return 0 <= move < len(waits) and waits[move] and house[2][move][0] == floor


def strays(house, left):
    """Tell the floors from which moves are left that by none of these lead to the start, rising.

    Just where there is none, some way home goes through all that is left: as
    many moves come to each floor as go from it, but for where that way begins
    and ends.
    """
    leads = _leads(house, left)
    some = 0
    for mask in leads:
        some |= mask
    stray = some & ~_leading_to(leads, house[1])
    return tuple([floor for floor in range(house[0]) if stray >> floor & 1])


def barred_of(house, left):
    """Tell which of the moves that are there bars the rest, a tuple of none or one; some way home must be left.

    It's the one move by which the floor leads home, where others go from there too.
    """
    floor, spare, waiting = left
    floors, start, errands = house
    here = moves_there(house, left)
    if floor == start or len(here) < 2:
        return ()
    leads = [mask & ~(1 << floor) for mask in _leads(house, left)]
    home = _leading_to(leads, start)
    good = [move for move in here if home >> _target(house, floor, move) & 1]
    if len(good) > 1 or (good[0] is None and spare[floor] > 1):
        return ()
    return (good[0],)


def way_on(house, left):
    """Give the moves of a way through all that is left, that must lead home."""
    floor, spare, waiting = left
    # Where each step is bare more than once yet, whole rounds of bare steps may as well be gone at last.
    rest = max(0, min(spare) - 1)
    fewer = tuple([often - rest for often in spare])
    return way(rows_left(house, (floor, fewer, waiting)), floor) + (None,) * (rest * house[0])


def rows_left(house, left):
    """List for each floor the moves that are left from it, each with the floor that it leads to."""
    floors, _, errands = house
    _, spare, waiting = left
    rows = [[(None, (step + 1) % floors)] * spare[step] for step in range(floors)]
    for number in waiting:
        begin, steps = errands[number]
        rows[begin].append((number, (begin + steps) % floors))
    return rows


def way(rows, floor):
    """Give the moves of a way from the floor through all that hang together with it, and take them out of rows.

    There must be such a way: it goes on till it can't, and where moves were
    left out on the way it goes round through them before it comes to its end.
    """
    ahead = [(None, floor)]
    told = []
    while ahead:
        row = rows[ahead[-1][1]]
        while row:
            move = row.pop()
            ahead.append(move)
            row = rows[move[1]]
        told.append(ahead.pop()[0])
    # The pair that stood ahead of all moves came out last.
    told.pop()
    return tuple(told[::-1])


def _target(house, floor, move):
    """Tell the floor to which the move leads from the floor."""
    return (floor + 1) % house[0] if move is None else end_of(house, move)


def _leads(house, left):
    """List for each floor the mask of those from which a move that is left leads to it."""
    floors, _, errands = house
    _, spare, waiting = left
    told = [0] * floors
    for step, often in enumerate(spare):
        if often > 0:
            told[(step + 1) % floors] = 1 << step
    for number in waiting:
        begin, steps = errands[number]
        told[(begin + steps) % floors] |= 1 << begin
    return told


def _leading_to(leads, floor):
    """Give the mask of the floor and of all that lead to it."""
    home = 1 << floor
    fresh = home
    while fresh:
        at = fresh.bit_length() - 1
        more = leads[at] & ~home
        home |= more
        fresh = fresh & ~(1 << at) | more
    return home
