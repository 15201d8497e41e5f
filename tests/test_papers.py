"""Tests of oneseat.papers: points 5 and 7."""

import itertools
import unittest

from oneseat import papers as module
from oneseat.errors import BadHouse, BadPaper
from oneseat.least import least_rounds, ride_of
from oneseat.papers import check_paper, is_split, paper, split_of
from tests.samples import (
    EMPTY_2, EMPTY_16, FULL, HEAVIEST, HUGE, LAIN_OVER, MIXED, SIXTEEN_LOTS, TWO_LOTS, bad_houses, check_interface,
    loads_by_walking, nested, no_numbers, plain, refusal, sample_houses, spoilt_rides,
)
from tests.trying import first_bad, larger_houses, parted_houses, small_houses, walk

SIGNATURES = {
    "split_of": "(house)", "is_split": "(house, thing)", "paper": "(house)", "check_paper": "(house, paper)",
}
SAMPLES = sample_houses() + [TWO_LOTS, LAIN_OVER, SIXTEEN_LOTS, HEAVIEST] + parted_houses(100)


def good_split(house, floors_in):
    """Tell of a list of unlike floors whether it's a split, by the document's own words."""
    floors, start, errands = house
    row = loads_by_walking(house)
    most = max(row)
    outside = [floor for floor in range(floors) if floor not in floors_in]
    if start in outside:
        return False
    if any(begin in floors_in and (begin + steps) % floors in outside for begin, steps in errands):
        return False
    if any(step in floors_in and (step + 1) % floors in outside and row[step] != most for step in range(floors)):
        return False
    seen = {start}
    for begin, steps in errands:
        seen |= {begin, (begin + steps) % floors}
    for step in range(floors):
        if row[step] < most:
            seen |= {step, (step + 1) % floors}
    return any(floor in outside for floor in seen)


def subsets(floors):
    return [told for many in range(floors + 1) for told in itertools.combinations(range(floors), many)]


class Interface(unittest.TestCase):
    def test_names_of_arguments(self):
        check_interface(self, module, SIGNATURES)

    def test_by_names(self):
        self.assertIs(is_split(thing=(1,), house=TWO_LOTS), True)
        self.assertEqual(check_paper(paper=((), ("step", 1)), house=EMPTY_2), 0)


class Splits(unittest.TestCase):
    def test_by_hand(self):
        for house in (EMPTY_2, EMPTY_16, (4, 1, ((1, 4),)), (4, 3, ((0, 2),)), MIXED):
            self.assertIsNone(split_of(house))
        self.assertIs(is_split(TWO_LOTS, (1,)), True)
        self.assertIs(is_split(LAIN_OVER, (0,)), True)
        self.assertIs(is_split(LAIN_OVER, (0, 2, 3)), True)
        self.assertIs(is_split(LAIN_OVER, (0, 1)), False)
        for thing in ((), (0,), (1, 0), (0, 1), (0, 2, 3), (0, 1, 2, 3), (1, 1), (1, 2), (1, 4), (-1, 1)):
            self.assertIs(is_split(TWO_LOTS, thing), False, thing)
        self.assertIs(is_split(SIXTEEN_LOTS, (3,)), True)
        self.assertIs(is_split(SIXTEEN_LOTS, tuple(range(15))), True)
        self.assertIs(is_split(SIXTEEN_LOTS, tuple(range(16))), False)
        self.assertIs(is_split(SIXTEEN_LOTS, (0, 1, 2, 4)), False)

    def test_all_subsets_of_small_houses(self):
        for house in small_houses() + [made for made in larger_houses() + parted_houses() if made[0] < 8]:
            good = []
            for thing in subsets(house[0]):
                told = is_split(house, thing)
                self.assertIs(told, good_split(house, thing), (house, thing))
                good += [thing] if told else []
            split = split_of(house)
            self.assertEqual(split is None, not good)
            self.assertIn(split, good + [None])

    def test_told_just_where_one_round_more_is_due(self):
        for house in SAMPLES:
            split = split_of(house)
            self.assertEqual(split is not None, least_rounds(house) == max(loads_by_walking(house)) + 1)
            if split is not None:
                self.assertTrue(plain(split))
                self.assertTrue(good_split(house, split))
                self.assertEqual(split, tuple(sorted(set(split))))
                self.assertIs(is_split(house, split), True)

    def test_spoilt_ones(self):
        for house in SAMPLES:
            split = split_of(house)
            if split is None:
                continue
            for thing in (
                list(split), split + split, split + (split[-1],), (split[0],) + split, (-1,) + split,
                split + (house[0],), (split,), split + (None,), split + (HUGE,), split[:-1] + (nested(20),),
                split[:-1] + ([split[-1]],), {floor: floor for floor in split}, repr(split), None, True,
            ):
                self.assertIs(is_split(house, thing), False, (house, thing))
            without = tuple(floor for floor in split if floor != house[1])
            self.assertIs(is_split(house, without), False)
            if len(split) > 1:
                self.assertIs(is_split(house, split[::-1]), False)

    def test_true_and_false_are_no_floors(self):
        house = (4, 1, ((1, 4), (0, 4)))
        self.assertIs(is_split(house, (1,)), True)
        self.assertIs(is_split(house, (True,)), False)
        self.assertIs(is_split((4, 0, house[2]), (False,)), False)
        self.assertIs(is_split((4, 0, ((0, 4), (2, 4))), (0, 1)), True)
        self.assertIs(is_split((4, 0, ((0, 4), (2, 4))), (0, True)), False)
        self.assertIs(is_split((4, 0, ((0, 4), (2, 4))), (False, 1)), False)

    def test_anything(self):
        for house in (EMPTY_2, EMPTY_16, MIXED, TWO_LOTS, LAIN_OVER):
            for thing in no_numbers() + [0, 1, HUGE, nested(29), (None,) * 9000, tuple(range(9000))]:
                for told in (thing, (thing,), (house[1], thing), (thing, house[1])):
                    before = repr(told)
                    answer = is_split(house, told)
                    self.assertIs(type(answer), bool)
                    self.assertTrue(not answer or plain(told))
                    self.assertEqual(repr(told), before)

    def test_bad_houses(self):
        for thing, place in bad_houses():
            self.assertEqual(refusal(BadHouse, split_of, thing).place, place)
            for other in ((), None, [0], (0,)):
                self.assertEqual(refusal(BadHouse, is_split, thing, other).place, place)


class Papers(unittest.TestCase):
    def test_told_and_checked(self):
        for house in SAMPLES + small_houses()[::5] + larger_houses():
            told = paper(house)
            self.assertIs(type(told), tuple)
            ride, why = told
            self.assertEqual(walk(house, ride)[1], least_rounds(house))
            self.assertIs(type(why), tuple)
            word, about = why
            if least_rounds(house) == max(loads_by_walking(house)):
                self.assertEqual(word, "step")
                self.assertIs(type(about), int)
                self.assertEqual(loads_by_walking(house)[about], least_rounds(house))
            else:
                self.assertEqual(word, "split")
                self.assertTrue(good_split(house, about))
            self.assertEqual(check_paper(house, told), least_rounds(house))

    def test_others_than_the_told_ones_are_taken(self):
        self.assertEqual(check_paper((2, 0, ((0, 2), (0, 2))), ((1, 0), ("step", 1))), 2)
        self.assertEqual(check_paper(EMPTY_16, ((), ("step", 15))), 0)
        ride = ride_of(SIXTEEN_LOTS)
        for split in ((3,), (1, 3), tuple(range(15)), tuple(range(3, 16))):
            self.assertEqual(check_paper(SIXTEEN_LOTS, (ride, ("split", split))), 17)

    def test_each_step_of_greatest_load(self):
        for house in (MIXED, FULL, TWO_LOTS, EMPTY_2, (4, 3, ((0, 2),))):
            ride = ride_of(house)
            least = least_rounds(house)
            for step in range(-1, house[0] + 2):
                good = 0 <= step < house[0] and loads_by_walking(house)[step] == least
                if good:
                    self.assertEqual(check_paper(house, (ride, ("step", step))), least)
                else:
                    self.assertEqual(refusal(BadPaper, check_paper, house, (ride, ("step", step))).about, "why")

    def test_form(self):
        for house in (EMPTY_2, MIXED, TWO_LOTS):
            ride, why = paper(house)
            for thing in no_numbers() + [
                [ride, why], (ride,), (ride, why, why), ((ride, why),), ride + why, {0: ride, 1: why}, "ab", b"ab", 0,
                HUGE, {ride: why}, (ride, why, None), (None,) * 3, nested(30),
            ]:
                if isinstance(thing, tuple) and len(thing) == 2:
                    continue
                self.assertEqual(refusal(BadPaper, check_paper, house, thing).about, "form")

    def test_ride(self):
        for house in (EMPTY_2, EMPTY_16, MIXED, TWO_LOTS, LAIN_OVER):
            ride, why = paper(house)
            for thing in spoilt_rides(house, ride):
                good = first_bad(house, thing) == "good"
                if not good or walk(house, thing)[1] > max(loads_by_walking(house)) + 1:
                    for reason in (why, None, ("step", 99)):
                        self.assertEqual(refusal(BadPaper, check_paper, house, (thing, reason)).about, "ride")
                elif walk(house, thing)[1] == least_rounds(house):
                    self.assertEqual(check_paper(house, (thing, why)), least_rounds(house))
                else:
                    self.assertEqual(refusal(BadPaper, check_paper, house, (thing, why)).about, "why")
            for thing in no_numbers() + [HUGE, nested(29)]:
                if thing != ():
                    self.assertEqual(refusal(BadPaper, check_paper, house, (thing, why)).about, "ride")

    def test_rounds_beyond_one_more(self):
        for house in (EMPTY_2, MIXED, TWO_LOTS, LAIN_OVER, FULL):
            most = max(loads_by_walking(house))
            _, why = paper(house)
            for many in (most + 2, most + 3, 130):
                told = (ride_of(house, rounds=many), why)
                self.assertEqual(refusal(BadPaper, check_paper, house, told).about, "ride")
            least = least_rounds(house)
            told = (ride_of(house, rounds=most + 1), why)
            if least == most:
                self.assertEqual(refusal(BadPaper, check_paper, house, told).about, "why")
            else:
                self.assertEqual(check_paper(house, told), least)

    def test_a_step_with_one_round_more(self):
        for house in (EMPTY_2, MIXED, TWO_LOTS, LAIN_OVER, SIXTEEN_LOTS):
            ride = ride_of(house, rounds=max(loads_by_walking(house)) + 1)
            for step in range(house[0]):
                self.assertEqual(refusal(BadPaper, check_paper, house, (ride, ("step", step))).about, "why")

    def test_a_split_with_a_ride_of_greatest(self):
        for house in (EMPTY_2, MIXED, (4, 1, ((1, 4),)), (4, 3, ((0, 2),))):
            ride = ride_of(house)
            for thing in subsets(house[0]):
                self.assertEqual(refusal(BadPaper, check_paper, house, (ride, ("split", thing))).about, "why")

    def test_why(self):
        for house in (EMPTY_2, MIXED, TWO_LOTS, LAIN_OVER):
            ride, why = paper(house)
            word, about = why
            other = {"step": "split", "split": "step"}[word]
            for thing in no_numbers() + [
                (word,), (word, about, about), [word, about], (about, word), (other, about), ("Step", about),
                ("", about), (word + " ", about), (None, about), ([word], about), ((word,), about), (0, about),
                (word, [about]), (word, (about,)), (word, None), (word, "0"), (word, -1), (word, HUGE), (word, {}),
                (word, nested(20)), (b"step", about), (word, True if about != 1 else False), (word, list(why)),
                (word, (True,)), (word, (False,)), {word: about}, "step", (word, 16), (word, house[0]), (why,),
            ]:
                error = refusal(BadPaper, check_paper, house, (ride, thing))
                self.assertEqual(error.about, "why", thing)

    def test_true_and_false_are_no_steps(self):
        house = (2, 0, ((0, 2),))
        self.assertEqual(check_paper(house, ((0,), ("step", 0))), 1)
        self.assertEqual(check_paper(house, ((0,), ("step", 1))), 1)
        for step in (True, False):
            self.assertEqual(refusal(BadPaper, check_paper, house, ((0,), ("step", step))).about, "why")

    def test_bad_houses(self):
        for thing, place in bad_houses():
            self.assertEqual(refusal(BadHouse, paper, thing).place, place)
            for other in (None, (), ((), ("step", 0)), (None, None)):
                self.assertEqual(refusal(BadHouse, check_paper, thing, other).place, place)


if __name__ == "__main__":
    unittest.main()
