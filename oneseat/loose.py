"""Loose rides: what is carried may be set down on the way."""

from oneseat.arrows import bare_by, goes_from, left_at_first, loads_of, lot_with, lots_of, rows_left, way, way_on
from oneseat.errors import BadLoose, TooFew
from oneseat.houses import need_house
from oneseat.lots import bare
from oneseat.rides import steps_of
from oneseat.words import is_whole


def is_loose(house, thing):
    """Tell whether thing is a loose ride of the house."""
    try:
        _walked(house, thing)
    except BadLoose:
        return False
    return True


def loose_rounds(house):
    """Tell the least rounds, loose."""
    need_house(house)
    return max(loads_of(house)) + (0 if _does_greatest(house) else 1)


def rounds_loose(house, loose):
    """Tell the rounds of the loose ride."""
    _, gone = _walked(house, loose)
    return gone // house[0]


def downs(house, loose):
    """Tell each setting down, in order: the errand's number and the floor."""
    told, _ = _walked(house, loose)
    return told


def fewest_downs(house, *, rounds=None):
    """Tell the fewest settings down of loose rides of so many rounds."""
    spare = _bare_or_loose(house, rounds)
    # Only by GREATEST some step is never bare.
    return len(lots_of(house, (house[1],), spare)) - 1 if min(spare) == 0 else 0


def loose_ride(house, *, rounds=None):
    """Give a loose ride of so many rounds with the fewest settings down."""
    spare = _bare_or_loose(house, rounds)
    left = left_at_first(house, spare)
    if min(spare) > 0:
        return _whole(house, way_on(house, left))
    rows = rows_left(house, left)
    ways = _ways_of_others(house, spare, rows)
    home = way(rows, house[1])
    cuts = _cuts(house, home, list(ways))
    told = []
    for move in home:
        told.extend(_with_cuts(house, move, cuts.get(move, []), ways))
    return tuple(told)


def loosened(house, ride):
    """Give the loose ride in which all errands of the ride are carried whole."""
    need_house(house)
    steps_of(house, ride)
    return _whole(house, ride)


def _does_greatest(house):
    """Tell whether a good house has loose rides of GREATEST rounds."""
    loads = loads_of(house)
    return max(loads) == 0 or goes_from(house, house[1], bare_by(loads, max(loads)))


def _bare_or_loose(house, rounds):
    """Tell how often each step is bare, by the least rounds, loose, for None; refuse no number of rounds, too few."""
    if rounds is None:
        return bare(house, rounds=loose_rounds(house))
    spare = bare(house, rounds=rounds)
    if min(spare) == 0 and not _does_greatest(house):
        raise TooFew(rounds + 1)
    return spare


def _walked(house, loose):
    """Tell the settings down of a loose ride, and how many steps it goes; refuse what is none."""
    need_house(house)
    if not isinstance(loose, tuple):
        raise BadLoose()
    floors, start, errands = house
    lying = [errand[0] for errand in errands]
    due = [errand[1] for errand in errands]
    told = []
    gone = 0
    for at, move in enumerate(loose):
        floor = (start + gone) % floors
        if move is None:
            gone += 1
        elif _is_pair(move, floor, lying, due):
            number, part = move
            gone += part
            due[number] -= part
            lying[number] = (floor + part) % floors
            if due[number] > 0:
                told.append((number, lying[number]))
        else:
            raise BadLoose(at)
    if gone % floors > 0 or sum(due) > 0:
        raise BadLoose(len(loose))
    return tuple(told), gone


def _is_pair(thing, floor, lying, due):
    """Tell whether thing is an errand that lies on the floor, with a part of the steps that it is due."""
    if not isinstance(thing, tuple) or len(thing) != 2:
        return False
    number, part = thing
    if not is_whole(number, most=len(lying) - 1) or lying[number] != floor:
        return False
    return is_whole(part, least=1, most=due[number])


def _whole(house, moves):
    """Give the moves with all errands carried whole."""
    errands = house[2]
    return tuple([move if move is None else (move, errands[move][1]) for move in moves])


def _ways_of_others(house, spare, rows):
    """Give for the first floor of each lot but the start's the loose way round through that lot."""
    told = lots_of(house, (house[1],), spare)
    home = lot_with(told, house[1])
    return {lot[0]: _whole(house, way(rows, lot[0])) for lot in told if lot != home}


def _cuts(house, home, marks):
    """Give for errands of the way home the parts behind which they're set down, and the floors.

    Over each floor of another lot some errand of this one lies, for this lot goes round too and doesn't halt there.
    """
    floors, _, errands = house
    told = {}
    for mark in marks:
        for number in home:
            if number is None:
                continue
            begin, steps = errands[number]
            part = (mark - begin) % floors
            if part < steps:
                told.setdefault(number, []).append((part, mark))
                break
    return told


def _with_cuts(house, move, cuts, ways):
    """List the moves of one move, with the ways round that are gone where it's set down."""
    if move is None:
        return [None]
    told = []
    carried = 0
    for part, mark in sorted(cuts):
        told.append((move, part - carried))
        told.extend(ways[mark])
        carried = part
    told.append((move, house[2][move][1] - carried))
    return told
