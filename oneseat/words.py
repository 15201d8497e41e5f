"""The greatest sizes, whole numbers, errands, and the words of texts."""

from oneseat.errors import BadNumber, BadText

MOST_FLOORS = 16
MOST_ERRANDS = 40
MOST_ROUNDS = 130
MOST_SEATS = 6

_MOST_FIGURES = 20
_MOST_SIGNS = 20000


def is_whole(thing, *, least=0, most=None):
    """Tell whether thing is a whole number from least to most; None: no bound."""
    # Python counts True and False among the ints, the document doesn't.
    if not isinstance(thing, int) or isinstance(thing, bool):
        return False
    if least is not None and thing < least:
        return False
    return most is None or thing <= most


def need_whole(thing, *, least=0, most=None):
    """Refuse with BadNumber what is no whole number from least to most."""
    if not is_whole(thing, least=least, most=most):
        raise BadNumber(thing)


def is_errand(thing, *, floors):
    """Tell whether thing is an errand of a ring of so many floors."""
    if not isinstance(thing, tuple) or len(thing) != 2:
        return False
    begin, steps = thing
    # Asked of each errand of each house that is handed in, so it's asked here at once, without is_whole.
    if not isinstance(begin, int) or not isinstance(steps, int) or isinstance(begin, bool) or isinstance(steps, bool):
        return False
    return 0 <= begin < floors and 0 < steps <= 3 * floors


def number_in(word, *, least=0, most=None):
    """Give the number that a word tells by figures, or None where it tells none from least to most."""
    if not word.isascii() or not word.isdigit() or len(word) > _MOST_FIGURES:
        return None
    if len(word) > 1 and word[0] == "0":
        return None
    number = int(word)
    return number if is_whole(number, least=least, most=most) else None


def lines_in(text):
    """Give the lines of a text, each as the list of its words; refuse what is no text, or too long, with BadText."""
    if not isinstance(text, str) or len(text) > _MOST_SIGNS:
        raise BadText(0, 0)
    return [line.split(" ") for line in text.split("\n")]
