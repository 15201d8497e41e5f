"""Tests of oneseat.words: points 0 and 1."""

import inspect
import unittest

from oneseat import words
from oneseat.errors import BadNumber, BadText
from oneseat.words import is_errand, is_whole, lines_in, need_whole, number_in
from tests.samples import HUGE, no_errands, no_numbers, refusal


class Numbers(unittest.TestCase):
    def test_the_four_numbers(self):
        told = (words.MOST_FLOORS, words.MOST_ERRANDS, words.MOST_ROUNDS, words.MOST_SEATS)
        self.assertEqual(told, (16, 40, 130, 6))
        self.assertEqual([type(number) for number in told], [int] * 4)


class IsWhole(unittest.TestCase):
    def test_from_0_on_with_no_bounds_told(self):
        for number in (0, 1, 2, 130, HUGE):
            self.assertIs(is_whole(number), True)
        for number in (-1, -2, -HUGE):
            self.assertIs(is_whole(number), False)

    def test_least_alone(self):
        for number, least, good in (
            (4, 5, False), (5, 5, True), (6, 5, True), (HUGE, 5, True), (0, 1, False), (-4, -3, False), (-3, -3, True),
            (0, -3, True), (-HUGE, -3, False), (HUGE, HUGE, True), (HUGE - 1, HUGE, False), (-HUGE, -HUGE, True),
        ):
            self.assertIs(is_whole(number, least=least), good, (number, least))

    def test_most_alone_leaves_least_0(self):
        for number, most, good in (
            (-1, 5, False), (0, 5, True), (5, 5, True), (6, 5, False), (HUGE, 5, False), (0, 0, True), (1, 0, False),
            (0, -1, False), (-1, -1, False), (-2, -1, False), (HUGE, HUGE, True), (HUGE + 1, HUGE, False),
        ):
            self.assertIs(is_whole(number, most=most), good, (number, most))

    def test_both(self):
        for number in range(-6, 7):
            for least in range(-4, 5):
                for most in range(-4, 5):
                    good = number in range(least, most + 1)
                    self.assertIs(is_whole(number, least=least, most=most), good, (number, least, most))
                    self.assertIs(is_whole(number, most=most, least=least), good, (number, least, most))

    def test_none_is_no_bound(self):
        for number in (-HUGE, -1, 0, 1, HUGE):
            self.assertIs(is_whole(number, least=None), True)
            self.assertIs(is_whole(number, least=None, most=None), True)
            self.assertIs(is_whole(number, least=None, most=0), number <= 0)
            self.assertIs(is_whole(number, least=0, most=None), number >= 0)

    def test_other_things_are_none(self):
        for thing in no_numbers():
            before = repr(thing)
            self.assertIs(is_whole(thing), False, before)
            self.assertIs(is_whole(thing, least=None), False, before)
            self.assertIs(is_whole(thing, least=None, most=5), False, before)
            self.assertIs(is_whole(thing, least=0, most=1), False, before)
            self.assertEqual(repr(thing), before)

    def test_thing_by_its_name_and_bounds_by_names_alone(self):
        self.assertIs(is_whole(thing=3, least=3, most=3), True)
        self.assertEqual(str(inspect.signature(is_whole)), "(thing, *, least=0, most=None)")
        with self.assertRaises(TypeError):
            is_whole(3, 0)


class NeedWhole(unittest.TestCase):
    def test_good_ones(self):
        self.assertIsNone(need_whole(0))
        self.assertIsNone(need_whole(5, least=5, most=5))
        self.assertIsNone(need_whole(-HUGE, least=None))

    def test_others_are_refused_with_the_very_thing(self):
        for thing in no_numbers() + [-1, -HUGE]:
            self.assertIs(refusal(BadNumber, need_whole, thing).about, thing)
        self.assertEqual(refusal(BadNumber, need_whole, 6, least=2, most=5).about, 6)
        self.assertEqual(refusal(BadNumber, need_whole, 1, least=2, most=5).about, 1)


class IsErrand(unittest.TestCase):
    def test_each_floor_and_each_number_of_steps(self):
        for floors in range(2, 17):
            for begin in range(-2, floors + 3):
                for steps in range(-2, 3 * floors + 4):
                    good = 0 <= begin < floors and 1 <= steps <= 3 * floors
                    self.assertIs(is_errand((begin, steps), floors=floors), good, (floors, begin, steps))

    def test_other_things_are_none(self):
        for floors in (2, 4, 16):
            for thing in no_errands(floors):
                before = repr(thing)
                self.assertIs(is_errand(thing, floors=floors), False, before)
                self.assertEqual(repr(thing), before)

    def test_thing_by_its_name_and_floors_by_its_name_alone(self):
        self.assertIs(is_errand(floors=2, thing=(0, 1)), True)
        self.assertEqual(str(inspect.signature(is_errand)), "(thing, *, floors)")
        with self.assertRaises(TypeError):
            is_errand((0, 1), 2)
        with self.assertRaises(TypeError):
            is_errand((0, 1))


class NumberIn(unittest.TestCase):
    def test_figures(self):
        for word, number in (
            ("0", 0), ("1", 1), ("9", 9), ("10", 10), ("130", 130), ("9" * 20, 10 ** 20 - 1),
            ("1" + "0" * 19, 10 ** 19),
        ):
            self.assertEqual(number_in(word), number)
            self.assertIs(type(number_in(word)), int)

    def test_no_figures(self):
        for word in ("", " ", "00", "01", "0" * 20, "-1", "+1", "-0", "1.0", "1_0", " 1", "1 ", "1\n", "x", "1x", "0x1",
                     "\u0661", "\u00b2", "\uff11", "1\u0661", "9" * 21, "1" + "0" * 20, "1" * 5000):
            self.assertIsNone(number_in(word), word[:30])

    def test_bounds(self):
        for word, least, most, number in (
            ("2", 2, 16, 2), ("16", 2, 16, 16), ("1", 2, 16, None), ("17", 2, 16, None), ("0", 0, 0, 0),
            ("1", 0, 0, None), ("5", 6, None, None), ("6", 6, None, 6), ("0", 1, None, None),
        ):
            self.assertEqual(number_in(word, least=least, most=most), number)


class LinesIn(unittest.TestCase):
    def test_lines_and_words(self):
        for text, rows in (
            ("", [[""]]), (" ", [["", ""]]), ("a b", [["a", "b"]]), ("a  b ", [["a", "", "b", ""]]),
            ("a\nb c\n", [["a"], ["b", "c"], [""]]), ("x" * 20_000, [["x" * 20_000]]), ("a\tb\rc", [["a\tb\rc"]]),
        ):
            self.assertEqual(lines_in(text), rows)

    def test_no_texts(self):
        for thing in [thing for thing in no_numbers() if not isinstance(thing, str)] + ["x" * 20_001, "\n" * 20_001]:
            told = refusal(BadText, lines_in, thing)
            self.assertEqual((told.row, told.word), (0, 0))


if __name__ == "__main__":
    unittest.main()
