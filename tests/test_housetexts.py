"""Tests of oneseat.housetexts: points 1 and 8."""

import random
import re
import unittest

from oneseat import housetexts as module
from oneseat.errors import BadHouse, BadText
from oneseat.housetexts import house_in, house_text
from tests.samples import (
    EMPTY_2, EMPTY_16, FULL, HEAVIEST, MIXED, SIXTEEN_LOTS, TWO_LOTS, bad_houses, check_interface, no_numbers, plain,
    refusal, sample_houses,
)
from tests.trying import parted_houses

SIGNATURES = {"house_text": "(house)", "house_in": "(text)"}
SAMPLES = sample_houses() + [TWO_LOTS, SIXTEEN_LOTS, HEAVIEST] + parted_houses(40)
NUMBER = re.compile("0|[1-9][0-9]*")
# Words that can stand nowhere, or not everywhere.
WORDS = (
    "", "ring", "errand", "Ring", "rings", "x", "-", "e0", "b1", "-1", "+1", "00", "01", "1.", "1.0", "1_0", "0x1",
    "1e1", "\t", "\t1", "1\r", "1,", "(1)", "None", "True", "0", "1", "2", "3", "4", "5", "12", "13", "15", "16", "17",
    "48", "49", "9" * 20, "9" * 21, "1" * 5000, "\u0661", "\u00b2", "1\u00a0", "\uff11",
)


def limits(floors):
    """Give what the words of an errand's line are: the first one, and the least and most of the numbers."""
    return ("errand", (0, floors - 1), (1, 3 * floors))


def bad_word(words, name, *bounds):
    """Give the first word, from 1, that can't stand in the line, or the one behind the last; None if all is good."""
    if words[0] != name:
        return 1
    for at, (least, most) in enumerate(bounds, start=2):
        if at > len(words) or not NUMBER.fullmatch(words[at - 1]) or len(words[at - 1]) > 4:
            return at
        if not least <= int(words[at - 1]) <= most:
            return at
    return len(bounds) + 2 if len(words) > len(bounds) + 1 else None


def bad_place(text):
    """Give the line and word that a house's text must be refused with, None of a good one."""
    if type(text) is not str or len(text) > 20_000:
        return 0, 0
    lines = [line.split(" ") for line in text.split("\n")]
    told = bad_word(lines[0], "ring", (2, 16), (0, 10 ** 9))
    floors = int(lines[0][1]) if told not in (1, 2) else None
    if floors is not None and (told is None or told == 4) and int(lines[0][2]) >= floors:
        told = 3
    if told is not None:
        return 1, told
    for row, words in enumerate(lines[1:], start=2):
        told = 1 if row == 42 else bad_word(words, *limits(floors))
        if told is not None:
            return row, told
    return None


class Interface(unittest.TestCase):
    def test_names_of_arguments(self):
        check_interface(self, module, SIGNATURES)
        self.assertEqual(house_text(house=EMPTY_2), "ring 2 0")
        self.assertEqual(house_in(text="ring 2 0"), EMPTY_2)


class Written(unittest.TestCase):
    def test_by_hand(self):
        self.assertEqual(house_text(EMPTY_16), "ring 16 15")
        self.assertEqual(house_text(TWO_LOTS), "ring 4 1\nerrand 1 4\nerrand 0 2")
        self.assertEqual(house_text((16, 10, ((15, 48), (15, 48)))), "ring 16 10\nerrand 15 48\nerrand 15 48")

    def test_read_back(self):
        for house in SAMPLES:
            text = house_text(house)
            self.assertIs(type(text), str)
            told = house_in(text)
            self.assertTrue(plain(told))
            self.assertEqual(told, house)
            self.assertEqual(house_text(told), text)
            lines = [f"ring {house[0]} {house[1]}"] + [f"errand {begin} {steps}" for begin, steps in house[2]]
            self.assertEqual(text.split("\n"), lines)

    def test_no_houses(self):
        for thing, place in bad_houses():
            self.assertEqual(refusal(BadHouse, house_text, thing).place, place)


class Read(unittest.TestCase):
    def check(self, text):
        place = bad_place(text)
        if place is None:
            self.assertEqual(house_text(house_in(text)), text)
        else:
            told = refusal(BadText, house_in, text)
            self.assertEqual((told.row, told.word), place, repr(text))

    def test_by_hand(self):
        for text, row, word in (
            ("", 1, 1), (" ", 1, 1), ("\n", 1, 1), ("ring", 1, 2), ("ring ", 1, 2), ("ring 4", 1, 3), ("ring 4 ", 1, 3),
            ("ring 4 1 ", 1, 4), ("ring 4 1\n", 2, 1), ("\nring 4 1", 1, 1), (" ring 4 1", 1, 1), ("ring  4 1", 1, 2),
            ("ring 4  1", 1, 3), ("ring 4 1 0", 1, 4), ("ring 1 0", 1, 2), ("ring 17 0", 1, 2), ("ring 4 4", 1, 3),
            ("ring 04 1", 1, 2), ("ring 4 01", 1, 3), ("ring 4 -1", 1, 3), ("ring 4 1\nerrand", 2, 2),
            ("ring 4 1\nerrand 0", 2, 3), ("ring 4 1\nerrand 4 1", 2, 2), ("ring 4 1\nerrand 0 0", 2, 3),
            ("ring 4 1\nerrand 0 13", 2, 3), ("ring 4 1\nerrand 0 12 ", 2, 4), ("ring 4 1\nerrand 0 1\n", 3, 1),
            ("ring 4 1\n\nerrand 0 1", 2, 1), ("ring 4 1\nring 4 1", 2, 1), ("ring 4 1\r\nerrand 0 1", 1, 3),
            ("errand 0 1", 1, 1), ("ring 4 1\terrand 0 1", 1, 3), ("ring 4 9\nerrand", 1, 3),
            ("ring 4 1\nerrand 9 99\nerrand", 2, 2), ("RING 4 1", 1, 1),
        ):
            told = refusal(BadText, house_in, text)
            self.assertEqual((told.row, told.word), (row, word), repr(text))
            self.assertEqual(bad_place(text), (row, word), repr(text))

    def test_no_text(self):
        for thing in no_numbers() + [0, 1, EMPTY_2, b"ring 2 0", ["ring 2 0"], ("ring 2 0",)]:
            if isinstance(thing, str):
                continue
            told = refusal(BadText, house_in, thing)
            self.assertEqual((told.row, told.word), (0, 0))

    def test_too_long(self):
        for text in ("x" * 20_000, "ring 4 1" + " " * 19_992, "ring 4 1" + "\n" * 19_992, "ring 4 " + "1" * 19_993):
            self.assertEqual(len(text), 20_000)
            self.check(text)
            self.assertNotEqual(bad_place(text), (0, 0))
            told = refusal(BadText, house_in, text + " ")
            self.assertEqual((told.row, told.word), (0, 0))

    def test_forty_lines_and_one_more(self):
        for house in (FULL, HEAVIEST):
            text = house_text(house)
            self.assertEqual(house_in(text), house)
            for more in ("errand 0 1", "", "x", "errand 99 99", "errand"):
                told = refusal(BadText, house_in, text + "\n" + more)
                self.assertEqual((told.row, told.word), (42, 1))
            told = refusal(BadText, house_in, text.replace("\nerrand 0 ", "\nerrand 16 ", 1) + "\nerrand 0 1")
            self.assertEqual(told.word, 2)

    def test_spoilt_word_by_word(self):
        chance = random.Random(67)
        for house in chance.sample(SAMPLES, 40) + [MIXED, EMPTY_2, EMPTY_16]:
            lines = [line.split(" ") for line in house_text(house).split("\n")]
            for row in sorted({0, 1, len(lines) // 2, len(lines) - 1} & set(range(len(lines)))):
                for at in range(4):
                    for word in WORDS:
                        for behind in (at, at + 1):
                            spoilt = lines[row][:at] + [word] + lines[row][behind:]
                            self.check("\n".join(map(" ".join, lines[:row] + [spoilt] + lines[row + 1:])))
                    spoilt = lines[row][:at] + lines[row][at + 1:]
                    self.check("\n".join(map(" ".join, lines[:row] + [spoilt] + lines[row + 1:])))

    def test_spoilt_sign_by_sign(self):
        text = house_text((3, 2, ((0, 9), (2, 1))))
        for at in range(len(text) + 1):
            for sign in " \n\t0159-.eb":
                self.check(text[:at] + sign + text[at:])
                self.check(text[:at] + sign + text[at + 1:])
            self.check(text[:at] + text[at + 1:])
            self.check(text[:at])
            self.check(text[at:])


if __name__ == "__main__":
    unittest.main()
