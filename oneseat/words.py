"""The greatest sizes, whole numbers and errands."""

from oneseat.errors import BadNumber

MOST_FLOORS = 16
MOST_ERRANDS = 40
MOST_ROUNDS = 130
MOST_SEATS = 6


def is_whole(thing, *, least=0, most=None):
    """Tell whether thing is a whole number from least to most; None: no bound."""
    # Python counts True and False among the ints, the document doesn't.
    if not isinstance(thing, int) or isinstance(thing, bool):
        return False
    if least is not None and thing < least:
        return False
    return most is None or thing <= most


def need_whole(thing, *, least=0, most=None):
    """Refuse with BadNumber what is no whole number from least to most."""
    if not is_whole(thing, least=least, most=most):
        raise BadNumber(thing)


def is_errand(thing, *, floors):
    """Tell whether thing is an errand of a ring of so many floors."""
    if not isinstance(thing, tuple) or len(thing) != 2:
        return False
    begin, steps = thing
    # Asked of each errand of each house that is handed in, so it's asked here at once, without is_whole.
    if not isinstance(begin, int) or not isinstance(steps, int) or isinstance(begin, bool) or isinstance(steps, bool):
        return False
    return 0 <= begin < floors and 0 < steps <= 3 * floors
