"""The least rounds, and a ride of so many rounds."""

from oneseat.arrows import least_of, left_at_first, lots_of, way_on
from oneseat.errors import TooFew
from oneseat.houses import need_house
from oneseat.lots import bare
from oneseat.words import MOST_ROUNDS, need_whole


def bare_or_least(house, rounds):
    """Tell how often each step is bare, by the least rounds for None; refuse no number of rounds, and too few."""
    if rounds is not None:
        return bare(house, rounds=rounds)
    need_house(house)
    return least_of(house)[1]


def least_rounds(house):
    """Tell the least rounds."""
    need_house(house)
    return least_of(house)[0]


def can_ride(house, rounds):
    """Tell whether there is a ride of so many rounds."""
    need_house(house)
    need_whole(rounds, most=MOST_ROUNDS)
    return rounds >= least_of(house)[0]


def ride_of(house, *, rounds=None):
    """Give a ride of so many rounds."""
    spare = bare_or_least(house, rounds)
    # Only by GREATEST, asked for, some step is never bare and there may be several lots.
    if rounds is not None and min(spare) == 0 and len(lots_of(house, (house[1],), spare)) > 1:
        raise TooFew(rounds + 1)
    return way_on(house, left_at_first(house, spare))
