"""The desk: a session, led and asked by lines of text."""

from oneseat.ends import best_ends, good_starts
from oneseat.errors import BadErrand, BadNumber, Gone, NoErrand, TooFew, TooMany
from oneseat.houses import greatest, loads
from oneseat.least import least_rounds, ride_of
from oneseat.loose import fewest_downs
from oneseat.lots import lots
from oneseat.ridetexts import row_text
from oneseat.sessions import Session
from oneseat.trees import how_many_rides
from oneseat.words import number_in


def _by_blanks(things):
    """Write things with blanks between, "none" where there are none."""
    return " ".join([str(thing) for thing in things]) if len(things) > 0 else "none"


def _by_commas(texts):
    """Write texts with commas between, "none" where there are none."""
    return ", ".join(texts) if len(texts) > 0 else "none"


def _at(session):
    return str(session.at())


def _gone(session):
    return str(session.gone())


def _left(session):
    return str(session.left())


def _waiting(session):
    told = session.waiting()
    return _by_commas([f"{number} {begin} {steps}" for number, (begin, steps) in told.items()])


def _least(session):
    return str(least_rounds(session.house_now()))


def _loads(session):
    return _by_blanks(loads(session.house_now()))


def _lots(session):
    return _by_commas([_by_blanks(lot) for lot in lots(session.house_now())])


def _downs(session):
    house = session.house_now()
    try:
        return str(fewest_downs(house, rounds=greatest(house)))
    except TooFew:
        return "none"


def _rides(session):
    return str(how_many_rides(session.house_now()))


def _ride(session):
    numbers = list(session.waiting())
    return row_text([None if move is None else f"e{numbers[move]}" for move in ride_of(session.house_now())])


def _starts(session):
    return _by_blanks(good_starts(session.house_now()))


def _ends(session):
    steps, floors = best_ends(session.house_now())
    return f"{steps} : {_by_blanks(floors)}"


def _free(session):
    return _by_blanks(["bare" if move is None else str(move) for move in session.free_moves()])


# Lines of one word that ask, each with what answers it.
_ASKED = {
    "at": _at, "gone": _gone, "left": _left, "waiting": _waiting, "least": _least, "loads": _loads, "lots": _lots,
    "downs": _downs, "rides": _rides, "ride": _ride, "starts": _starts, "ends": _ends, "free": _free,
}
# Lines that do something, each with how many numbers stand behind the first word.
_DONE = {"ring": 2, "come": 2, "off": 1, "take": 1, "bare": 0}


def _numbers_in(line):
    """Read the first word of a line and the numbers behind it, None of what is no such line."""
    if not isinstance(line, str):
        return None
    name, *words = line.split(" ")
    if len(words) != (0 if name in _ASKED else _DONE.get(name, -1)):
        return None
    numbers = [number_in(word) for word in words]
    return None if None in numbers else (name, numbers)


class Desk:
    """A session of its own, at first of two floors, and lines that are said to it."""

    def __init__(self):
        self._session = Session(2)
        # One entry for each line that was said, for it's the length that is told.
        self._lines = []

    def said(self, line):
        """Do what the line says, or tell what it asks."""
        self._lines.append(True)
        read = _numbers_in(line)
        if read is None:
            return "bad line"
        name, numbers = read
        try:
            return self._answer(name, numbers)
        except (BadNumber, BadErrand):
            return "no number"
        except NoErrand:
            return "no errand"
        except Gone:
            return "elsewhere"
        except TooMany:
            return "too many"

    def __len__(self):
        return len(self._lines)

    def _answer(self, name, numbers):
        """Answer a line that could be read."""
        if name in _ASKED:
            answer = _ASKED[name]
            return answer(self._session)
        if name == "come":
            return str(self._session.come(tuple(numbers)))
        if name == "ring":
            self._session = Session(numbers[0], start=numbers[1])
        elif name == "off":
            self._session.off(numbers[0])
        else:
            self._session.move(numbers[0] if name == "take" else None)
        return "done"
