"""Numbers: rides of so many rounds, numbered from 0 as they rise."""

from oneseat.arrows import end_of, left_after, left_at_first, moves_there
from oneseat.errors import TooMany
from oneseat.least import bare_or_least
from oneseat.lots import bare
from oneseat.rides import rounds_of
from oneseat.trees import ways_left
from oneseat.words import need_whole

MOST_MOVES = 40


def nth_ride(house, number, *, rounds=None):
    """Give the ride of that number among those of so many rounds."""
    left = left_at_first(house, bare_or_least(house, rounds))
    need_whole(number, most=ways_left(house, left) - 1)
    many = _need_few_moves(house, left)
    told = []
    rest = number
    for _ in range(many):
        move, ahead = _next_one(house, left, rest)
        told.append(move)
        rest -= ahead
        left = left_after(house, left, move)
    return tuple(told)


def number_of(house, ride):
    """Tell the number of the ride among those of its rounds."""
    rounds = rounds_of(house, ride)
    left = left_at_first(house, bare(house, rounds=rounds))
    _need_few_moves(house, left)
    told = 0
    for move in ride:
        told += _ways_ahead(house, left, move)
        left = left_after(house, left, move)
    return told


def _need_few_moves(house, left):
    """Tell how many moves are left; refuse more than are numbered."""
    _, spare, waiting = left
    many = sum(spare) + len(waiting)
    if many > MOST_MOVES:
        raise TooMany(MOST_MOVES)
    return many


def _next_one(house, left, rest):
    """Give the move of the way of that number through what is left, and how many ways begin with moves ahead of it."""
    here = moves_there(house, left)
    ahead = 0
    known = {}
    for move in here[:-1]:
        ways = _ways_behind(house, left, move, known)
        if rest < ahead + ways:
            return move, ahead
        ahead += ways
    return here[-1], ahead


def _ways_ahead(house, left, last):
    """Tell how many ways through what is left begin with moves that come ahead of the last one."""
    told = 0
    known = {}
    for move in moves_there(house, left):
        if move == last:
            break
        told += _ways_behind(house, left, move, known)
    return told


def _ways_behind(house, left, move, known):
    """Tell in how many ways it goes on behind the move; known has those of errands with the same ends."""
    end = None if move is None else end_of(house, move)
    if end not in known:
        known[end] = ways_left(house, left_after(house, left, move))
    return known[end]
