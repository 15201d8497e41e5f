"""Loose rides: what is carried may be set down on the way."""

from oneseat.errors import BadLoose, TooFew
from oneseat.houses import greatest, need_house
from oneseat.least import ride_of
from oneseat.lots import bears, lot_of, lots, rounds_or_greatest
from oneseat.rides import need_ride
from oneseat.underway import left_at_first, rows_left, way
from oneseat.words import is_whole


def is_loose(house, thing):
    """Tell whether thing is a loose ride of the house."""
    try:
        _walked(house, thing)
    except BadLoose:
        return False
    return True


def loose_rounds(house):
    """Tell the least rounds, loose."""
    many = greatest(house)
    return many if many == 0 or bears(house) else many + 1


def rounds_loose(house, loose):
    """Tell the rounds of the loose ride."""
    _, gone = _walked(house, loose)
    return gone // house[0]


def downs(house, loose):
    """Tell each setting down, in order: the errand's number and the floor."""
    told, _ = _walked(house, loose)
    return told


def fewest_downs(house, *, rounds=None):
    """Tell the fewest settings down of loose rides of so many rounds."""
    many = _rounds_or_loose(house, rounds)
    return len(lots(house)) - 1 if many == greatest(house) else 0


def loose_ride(house, *, rounds=None):
    """Give a loose ride of so many rounds with the fewest settings down."""
    many = _rounds_or_loose(house, rounds)
    if many > greatest(house):
        return loosened(house, ride_of(house, rounds=many))
    rows = rows_left(house, left_at_first(house, many))
    ways = _ways_of_others(house, rows)
    home = way(rows, house[1])
    cuts = _cuts(house, home, list(ways))
    told = ()
    for move in home:
        told = told + _with_cuts(house, move, cuts.get(move, []), ways)
    return told


def loosened(house, ride):
    """Give the loose ride in which all errands of the ride are carried whole."""
    need_ride(house, ride)
    return _whole(house, ride)


def _rounds_or_loose(house, rounds):
    """Give the rounds asked for, the least loose ones for None; refuse no number of rounds, and too few."""
    least = loose_rounds(house)
    if rounds is None:
        return least
    many = rounds_or_greatest(house, rounds)
    if many < least:
        raise TooFew(least)
    return many


def _walked(house, loose):
    """Tell the settings down of a loose ride, and how many steps it goes; refuse what is none."""
    need_house(house)
    if not isinstance(loose, tuple):
        raise BadLoose()
    floors, start, errands = house
    lying = [errand[0] for errand in errands]
    due = [errand[1] for errand in errands]
    told = []
    gone = 0
    for at, move in enumerate(loose):
        floor = (start + gone) % floors
        if move is None:
            gone += 1
        elif _is_pair(move, floor, lying, due):
            number, part = move
            gone += part
            due[number] -= part
            lying[number] = (floor + part) % floors
            if due[number] > 0:
                told.append((number, lying[number]))
        else:
            raise BadLoose(at)
    if gone % floors > 0 or sum(due) > 0:
        raise BadLoose(len(loose))
    return tuple(told), gone


def _is_pair(thing, floor, lying, due):
    """Tell whether thing is an errand that lies on the floor, with a part of the steps that it is due."""
    if not isinstance(thing, tuple) or len(thing) != 2:
        return False
    number, part = thing
    if not is_whole(number, most=len(lying) - 1) or lying[number] != floor:
        return False
    return is_whole(part, least=1, most=due[number])


def _whole(house, moves):
    """Give the moves with all errands carried whole."""
    errands = house[2]
    return tuple(move if move is None else (move, errands[move][1]) for move in moves)


def _ways_of_others(house, rows):
    """Give for the first floor of each lot but the start's the loose way round through that lot."""
    home = lot_of(house, house[1])
    return {lot[0]: _whole(house, way(rows, lot[0])) for lot in lots(house) if lot != home}


def _cuts(house, home, marks):
    """Give for errands of the way home the parts behind which they're set down, and the floors.

    Over each floor of another lot some errand of this one lies, for this lot goes round too and doesn't halt there.
    """
    floors, _, errands = house
    told = {}
    for mark in marks:
        for number in home:
            if number is None:
                continue
            begin, steps = errands[number]
            part = (mark - begin) % floors
            if part < steps:
                told.setdefault(number, []).append((part, mark))
                break
    return told


def _with_cuts(house, move, cuts, ways):
    """Give the moves of one move, with the ways round that are gone where it's set down."""
    if move is None:
        return (None,)
    told = ()
    carried = 0
    for part, mark in sorted(cuts):
        told = told + ((move, part - carried),) + ways[mark]
        carried = part
    return told + ((move, house[2][move][1] - carried),)
