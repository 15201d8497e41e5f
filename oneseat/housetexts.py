"""Houses as texts: a line for the ring, and one for each errand."""

from oneseat.errors import BadText
from oneseat.houses import need_house
from oneseat.words import MOST_ERRANDS, MOST_FLOORS, lines_in, number_in


def house_text(house):
    """Write the house."""
    need_house(house)
    floors, start, errands = house
    return "\n".join([f"ring {floors} {start}"] + [f"errand {begin} {steps}" for begin, steps in errands])


def house_in(text):
    """Read a house; refuse with BadText what isn't written so, by the first line and word that can't stand there."""
    rows = lines_in(text)
    _need_name(rows[0], 1, "ring")
    floors = _number_at(rows[0], 1, 2, 2, MOST_FLOORS)
    start = _last_number(rows[0], 1, 0, floors - 1)
    errands = []
    for row, words in enumerate(rows[1:], start=2):
        if len(errands) == MOST_ERRANDS:
            raise BadText(row, 1)
        _need_name(words, row, "errand")
        begin = _number_at(words, row, 2, 0, floors - 1)
        errands.append((begin, _last_number(words, row, 1, 3 * floors)))
    return (floors, start, tuple(errands))


def _need_name(words, row, name):
    """Refuse a line that doesn't begin with its name."""
    if words[0] != name:
        raise BadText(row, 1)


def _number_at(words, row, word, least, most):
    """Read the number that is that word of the line, from least to most."""
    number = number_in(words[word - 1], least=least, most=most) if word <= len(words) else None
    if number is None:
        raise BadText(row, word)
    return number


def _last_number(words, row, least, most):
    """Read the number that is the third word of the line, and the last one."""
    number = _number_at(words, row, 3, least, most)
    if len(words) > 3:
        raise BadText(row, 4)
    return number
