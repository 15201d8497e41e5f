"""Tests of oneseat.ridetexts: points 2 and 8."""

import random
import re
import unittest

from oneseat import ridetexts as module
from oneseat.errors import BadLoose, BadRide, BadText
from oneseat.least import ride_of
from oneseat.loose import loose_ride, loosened
from oneseat.ridetexts import loose_in, loose_text, ride_in, ride_text
from tests.samples import (
    EMPTY_2, EMPTY_16, FULL, HEAVIEST, HUGE, MIXED, SIXTEEN_LOTS, TWO_LOTS, check_interface, no_numbers, plain_moves,
    refusal, sample_houses,
)
from tests.trying import parted_houses

SIGNATURES = {"ride_text": "(ride)", "loose_text": "(loose)", "ride_in": "(text)", "loose_in": "(text)"}
HOUSES = sample_houses() + [TWO_LOTS, SIXTEEN_LOTS, HEAVIEST] + parted_houses(40)
NUMBER = "(0|[1-9][0-9]{0,5})"
WORDS = (
    "", "-", "--", "e", "b", "e0", "e5", "e39", "e40", "e05", "e00", "e-1", "e+1", "E5", "b0", "b1", "b2", "b01",
    "b3000", "b3001", "b-1", "B1", "e5.3", "e5.0", "e5.1", "e5.48", "e5.49", "e39.48", "e40.1", "e5.03",
    "e05.3", "e5.", "e.3", "e.", "e5.3.1", "e5..3", "e5,3", "5", "5.3", ".", "b1.1", "e5b1", "b1e5", "e 5", "e5\t",
    "e\t5", "none", "bare", "e" + "9" * 20, "e" + "9" * 21, "e1." + "9" * 21, "b" + "9" * 20, "b" + "9" * 21,
    "b" + "9" * 5000, "e" + "1" * 5000,
    "e\u0661", "b\u0663", "e\u00b2", "e5.\u0663", "e5\u00a0", "e5\r",
)


def moves_by_words(word, loose):
    """Give the moves that a word stands for, None of one that can't stand."""
    bare = re.fullmatch("b" + NUMBER, word, re.ASCII)
    if bare:
        many = int(bare[1])
        return [None] * many if 1 <= many <= 3000 else None
    if loose:
        pair = re.fullmatch("e" + NUMBER + "[.]" + NUMBER, word, re.ASCII)
        if pair and int(pair[1]) < 40 and 1 <= int(pair[2]) <= 48:
            return [(int(pair[1]), int(pair[2]))]
        return None
    errand = re.fullmatch("e" + NUMBER, word, re.ASCII)
    return [int(errand[1])] if errand and int(errand[1]) < 40 else None


def read_by_words(text, loose):
    """Give what a text says, and the line and word it must be refused with, one of the two None."""
    if type(text) is not str or len(text) > 20_000:
        return None, (0, 0)
    lines = [line.split(" ") for line in text.split("\n")]
    told, words = [], lines[0]
    if words[0] == "-":
        if len(words) > 1:
            return None, (1, 2)
    else:
        for at, word in enumerate(words, start=1):
            moves = moves_by_words(word, loose)
            if moves is None or len(told) + len(moves) > 3000:
                return None, (1, at)
            if word[0] == "b" and at > 1 and words[at - 2][0] == "b":
                return None, (1, at)
            told += moves
    return (tuple(told), None) if len(lines) == 1 else (None, (2, 1))


def some_moves(chance, many, loose):
    """Give moves that are a ride's by their form, so many."""
    told = []
    for _ in range(many):
        number = chance.randrange(40)
        told.append(chance.choice((None, None, (number, chance.randint(1, 48)) if loose else number)))
    return tuple(told)


class Interface(unittest.TestCase):
    def test_names_of_arguments(self):
        check_interface(self, module, SIGNATURES)
        self.assertEqual((ride_text(ride=(0,)), loose_text(loose=((0, 1),))), ("e0", "e0.1"))
        self.assertEqual((ride_in(text="e0"), loose_in(text="e0.1")), ((0,), ((0, 1),)))


class Written(unittest.TestCase):
    def test_by_hand(self):
        for moves, text in (
            ((), "-"), ((None,), "b1"), ((None,) * 3, "b3"), ((5,), "e5"), ((0, 39), "e0 e39"), ((5, 5), "e5 e5"),
            ((None, None, 5, None, 7, 7, None), "b2 e5 b1 e7 e7 b1"), ((None,) * 3000, "b3000"),
        ):
            self.assertEqual(ride_text(moves), text)
            self.assertEqual(ride_in(text), moves)
        for moves, text in (
            ((), "-"), ((None,), "b1"), (((5, 3),), "e5.3"), (((39, 48), None, None, (0, 1)), "e39.48 b2 e0.1"),
            (((5, 3), (5, 3)), "e5.3 e5.3"), ((None,) * 3000, "b3000"),
        ):
            self.assertEqual(loose_text(moves), text)
            self.assertEqual(loose_in(text), moves)

    def test_rides_read_back(self):
        for house in HOUSES:
            ride, loose = ride_of(house), loose_ride(house)
            self.assertEqual(ride_in(ride_text(ride)), ride)
            self.assertTrue(plain_moves(ride_in(ride_text(ride))))
            self.assertEqual(loose_in(loose_text(loose)), loose)
            self.assertEqual(loose_in(loose_text(loosened(house, ride))), loosened(house, ride))

    def test_any_moves_read_back(self):
        chance = random.Random(71)
        for many in (0, 1, 2, 3, 10, 100, 2999, 3000):
            for _ in range(5):
                moves = some_moves(chance, many, False)
                text = ride_text(moves)
                self.assertEqual(read_by_words(text, False), (moves, None))
                self.assertEqual(ride_in(text), moves)
                moves = some_moves(chance, many, True)
                text = loose_text(moves)
                self.assertEqual(read_by_words(text, True), (moves, None))
                self.assertEqual(loose_in(text), moves)

    def test_at_most_three_thousand(self):
        for text_of, kind, one in ((ride_text, BadRide, 39), (loose_text, BadLoose, (39, 48))):
            whole = (None,) * 3000
            for moves in (whole + (None,), (one,) * 3001, whole + ("x",), (one,) * 9_000, whole * 2 + (40,)):
                self.assertEqual(refusal(kind, text_of, moves).number, 3000)
            self.assertEqual(refusal(kind, text_of, (None,) * 2999 + ("x", None)).number, 2999)
            self.assertEqual(refusal(kind, text_of, (None, "x") + (None,) * 5000).number, 1)
            self.assertEqual(text_of((None,) * 3000), "b3000")
        self.assertEqual(len(loose_text(((39, 48),) * 3000).split(" ")), 3000)

    def test_no_rides(self):
        wrong = [thing for thing in no_numbers() if thing is not None] + [-1, 40, HUGE, -HUGE, (5, 3), [5], "e5", "b1"]
        for thing in wrong:
            for ahead in ((), (0,), (None, 0, 0)):
                self.assertEqual(refusal(BadRide, ride_text, ahead + (thing,) + (None, "x")).number, len(ahead))
        for thing in no_numbers() + [0, 5, "-", "e5", [0], {0: 1}]:
            if not isinstance(thing, tuple):
                self.assertIsNone(refusal(BadRide, ride_text, thing).number)
                self.assertIsNone(refusal(BadLoose, loose_text, thing).number)

    def test_no_loose_rides(self):
        wrong = [thing for thing in no_numbers() if thing not in (None, (0, 1))] + [-1, 0, 5, 40, HUGE, -HUGE, "e5.3"]
        wrong += [(40, 1), (-1, 1), (0, 0), (0, -1), (0, 49), (0, HUGE), (HUGE, 1), [0, 1], (0, 1, 1), ((0, 1),), (0,)]
        wrong += [(thing, 1) for thing in no_numbers()] + [(0, thing) for thing in no_numbers()]
        for thing in wrong:
            for ahead in ((), ((0, 1),), (None, (39, 48), (0, 1))):
                self.assertEqual(refusal(BadLoose, loose_text, ahead + (thing,) + (None, "x")).number, len(ahead))


class Read(unittest.TestCase):
    def check(self, text):
        for call, loose in ((ride_in, False), (loose_in, True)):
            moves, place = read_by_words(text, loose)
            if place is None:
                self.assertEqual(call(text), moves, repr(text))
            else:
                told = refusal(BadText, call, text)
                self.assertEqual((told.row, told.word), place, repr(text))

    def test_by_hand(self):
        for text, place in (
            ("", (1, 1)), (" ", (1, 1)), ("\n", (1, 1)), ("- ", (1, 2)), ("-\n", (2, 1)), ("- -", (1, 2)),
            ("- e0", (1, 2)), (" -", (1, 1)), ("b1 -", (1, 2)), ("b0", (1, 1)), ("b1 b1", (1, 2)), ("b3001", (1, 1)),
            ("b3000 b1", (1, 2)), ("b1 ", (1, 2)), (" b1", (1, 1)), ("b1\n", (2, 1)), ("b1\nb1", (2, 1)),
            ("b1\nx x", (2, 1)), ("b1  b1", (1, 2)), ("b01", (1, 1)), ("x\nx", (1, 1)), ("b1 b1\nb1", (1, 2)),
        ):
            for call in (ride_in, loose_in):
                told = refusal(BadText, call, text)
                self.assertEqual((told.row, told.word), place, repr(text))
            self.check(text)
        for text, place in (("e0 e40", (1, 2)), ("e0 e5.3", (1, 2)), ("e0  e1", (1, 2)), ("b3000 e0", (1, 2))):
            told = refusal(BadText, ride_in, text)
            self.assertEqual((told.row, told.word), place)
        for text, place in (("e0.1 e1", (1, 2)), ("e0.49", (1, 1)), ("e0.0", (1, 1)), ("b3000 e0.1", (1, 2))):
            told = refusal(BadText, loose_in, text)
            self.assertEqual((told.row, told.word), place)

    def test_no_text(self):
        for thing in no_numbers() + [0, 5, b"e5", ["e5"], ("e5",)]:
            if not isinstance(thing, str):
                for call in (ride_in, loose_in):
                    told = refusal(BadText, call, thing)
                    self.assertEqual((told.row, told.word), (0, 0))

    def test_too_long(self):
        for text in ("x" * 20_000, " " * 20_000, "\n" * 20_000, "b1 " + "e" * 19_997, "-" + " " * 19_999,
                     "e0 " * 6_666 + "e1", "b" + "1" * 19_999):
            self.assertEqual(len(text), 20_000)
            self.check(text)
            self.assertNotEqual(read_by_words(text, False)[1], (0, 0))
            for more in (" ", "x", "\n"):
                for call in (ride_in, loose_in):
                    told = refusal(BadText, call, text + more)
                    self.assertEqual((told.row, told.word), (0, 0))
        self.assertEqual(len(loose_text(((39, 48),) * 2858)), 20_005)
        self.assertEqual(refusal(BadText, loose_in, loose_text(((39, 48),) * 2858)).row, 0)

    def test_three_thousand_moves_and_one_more(self):
        for text in (
            "e0 " * 2999 + "e0", "e0 " * 3000 + "e0", "e0 " * 2999 + "b1", "e0 " * 2999 + "b2", "b2999 e0",
            "b2999 e0 e0", "b1500 e0 b1499", "b1500 e0 b1500", "b1500 e0 b1499 e0", "e0 " * 3000 + "x",
            "e0 " * 3000 + "-",
        ):
            self.check(text)
            self.check(text.replace("e0", "e0.1"))
        self.assertEqual(refusal(BadText, ride_in, "e0 " * 3000 + "e0").word, 3001)

    def test_spoilt_word_by_word(self):
        for words in (
            ["-"], ["b1"], ["e5"], ["e5.3"], ["b2", "e5", "b1"], ["e5", "e5", "e0"], ["e5.3", "b1", "e5.48", "e0.1"],
            ["b2998", "e1", "e2"], ["b2998", "e1.1", "e2.1"], ride_text(ride_of(MIXED)).split(" "),
            loose_text(loose_ride(FULL)).split(" "),
        ):
            for at in range(min(8, len(words)) + 1):
                for word in WORDS:
                    self.check(" ".join(words[:at] + [word] + words[at:]))
                    self.check(" ".join(words[:at] + [word] + words[at + 1:]))
                self.check(" ".join(words[:at] + words[at + 1:]))
                self.check(" ".join(words[:at]) + "\n" + " ".join(words[at:]))

    def test_spoilt_sign_by_sign(self):
        for text in ("b12 e5 e39 b1", "e5.3 b2 e39.48", "-"):
            for at in range(len(text) + 1):
                for sign in " \n\t0149-.ebx":
                    self.check(text[:at] + sign + text[at:])
                    self.check(text[:at] + sign + text[at + 1:])
                self.check(text[:at] + text[at + 1:])

    def test_empty_houses(self):
        for house in (EMPTY_2, EMPTY_16):
            self.assertEqual(ride_text(ride_of(house)), "-")
            self.assertEqual(ride_text(ride_of(house, rounds=130)), f"b{130 * house[0]}")


if __name__ == "__main__":
    unittest.main()
