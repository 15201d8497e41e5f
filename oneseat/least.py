"""The least rounds, and a ride of so many rounds."""

from oneseat.errors import TooFew
from oneseat.houses import greatest, need_house
from oneseat.lots import lots, rounds_or_greatest
from oneseat.underway import left_at_first, rows_left, way
from oneseat.words import MOST_ROUNDS, need_whole


def rounds_or_least(house, rounds):
    """Give the rounds asked for, the least for None; refuse no number of rounds, and fewer than GREATEST."""
    if rounds is None:
        return least_rounds(house)
    return rounds_or_greatest(house, rounds)


def least_rounds(house):
    """Tell the least rounds."""
    many = greatest(house)
    return many if len(lots(house)) == 1 else many + 1


def can_ride(house, rounds):
    """Tell whether there is a ride of so many rounds."""
    need_house(house)
    need_whole(rounds, most=MOST_ROUNDS)
    return rounds >= least_rounds(house)


def ride_of(house, *, rounds=None):
    """Give a ride of so many rounds."""
    many = rounds_or_least(house, rounds)
    least = least_rounds(house)
    if many < least:
        raise TooFew(least)
    return way(rows_left(house, left_at_first(house, many)), house[1])
