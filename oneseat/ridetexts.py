"""Rides and loose rides as texts of one line."""

from oneseat.errors import BadLoose, BadRide, BadText
from oneseat.words import MOST_ERRANDS, MOST_FLOORS, is_whole, lines_in, number_in

_MOST_WRITTEN = 3000


def ride_text(ride):
    """Write what is a ride by its form; refuse all else by the number of the first move that can't be."""
    if not isinstance(ride, tuple):
        raise BadRide()
    for number, move in enumerate(ride):
        if number == _MOST_WRITTEN or not (move is None or is_whole(move, most=MOST_ERRANDS - 1)):
            raise BadRide(number)
    return row_text([None if move is None else f"e{move}" for move in ride])


def loose_text(loose):
    """Write what is a loose ride by its form; refuse all else by the number of the first move that can't be."""
    if not isinstance(loose, tuple):
        raise BadLoose()
    for number, move in enumerate(loose):
        if number == _MOST_WRITTEN or not (move is None or _is_pair(move)):
            raise BadLoose(number)
    return row_text([None if move is None else f"e{move[0]}.{move[1]}" for move in loose])


def ride_in(text):
    """Read a ride; refuse with BadText what isn't written so, by the first line and word that can't stand there."""
    return _moves_in(text, _errand_in)


def loose_in(text):
    """Read a loose ride; refuse with BadText what isn't written so, by the first line and word that can't stand."""
    return _moves_in(text, _pair_in)


def row_text(row):
    """Write moves one behind another: None for a bare step, the word itself for an errand."""
    told = []
    bare = 0
    for word in row:
        if word is None:
            bare += 1
        else:
            told.extend(_bare_words(bare))
            told.append(word)
            bare = 0
    told.extend(_bare_words(bare))
    return " ".join(told) if told else "-"


def _bare_words(many):
    """Write so many bare steps side by side, in a word or in none."""
    return [f"b{many}"] if many > 0 else []


def _is_pair(thing):
    """Tell whether thing is a number of an errand with a part, by its form."""
    if not isinstance(thing, tuple) or len(thing) != 2:
        return False
    number, part = thing
    return is_whole(number, most=MOST_ERRANDS - 1) and is_whole(part, least=1, most=3 * MOST_FLOORS)


def _moves_in(text, errand_in):
    """Read the moves of a text of one line; errand_in lists the move of an errand's word, nothing of another one."""
    rows = lines_in(text)
    words = rows[0]
    if words[0] == "-":
        if len(words) > 1:
            raise BadText(1, 2)
        words = []
    told = []
    before = 0
    for at, word in enumerate(words, start=1):
        bare = _bare_in(word)
        moves = [None] * bare if bare > 0 else errand_in(word)
        if not moves or len(told) + len(moves) > _MOST_WRITTEN or (bare > 0 and before > 0):
            raise BadText(1, at)
        told.extend(moves)
        before = bare
    if len(rows) > 1:
        raise BadText(2, 1)
    return tuple(told)


def _bare_in(word):
    """Tell how many bare steps the word stands for, 0 where it's no such word."""
    if word[:1] != "b":
        return 0
    return number_in(word[1:], least=1, most=_MOST_WRITTEN) or 0


def _errand_in(word):
    """Give the number of the errand that the word stands for, in a list."""
    number = number_in(word[1:], most=MOST_ERRANDS - 1)
    return [number] if word[:1] == "e" and number is not None else []


def _pair_in(word):
    """Give the pair that the word stands for, in a list."""
    parts = word[1:].split(".")
    if word[:1] != "e" or len(parts) != 2:
        return []
    pair = (number_in(parts[0]), number_in(parts[1]))
    return [pair] if _is_pair(pair) else []
