"""Tests of oneseat.ends: points 5, 14, 15 and 16."""

import random
import unittest

from oneseat import ends as module
from oneseat.ends import best_ends, cost_of, days, end_row, end_steps, free_errands, good_starts
from oneseat.errors import BadErrand, BadHouse, BadNumber, TooMany
from oneseat.houses import greatest, started, with_errand, without
from oneseat.least import least_rounds
from oneseat.loose import loose_rounds
from tests.samples import (
    EMPTY_2, EMPTY_16, FULL, HEAVIEST, HUGE, LAIN_OVER, MIXED, SIXTEEN_LOTS, TWO_LOTS, bad_houses, check_interface,
    loads_by_walking, no_errands, no_numbers, plain, plain_moves, refusal, sample_houses,
)
from tests.trying import larger_houses, least_by_trying, parted_houses, small_houses

SIGNATURES = {
    "end_steps": "(house, floor)", "end_row": "(house, floor)", "best_ends": "(house)", "good_starts": "(house)",
    "cost_of": "(house, errand)", "free_errands": "(house)", "days": "(house, many)",
}
SAMPLES = sample_houses() + [TWO_LOTS, LAIN_OVER, SIXTEEN_LOTS, HEAVIEST] + parted_houses(80)
ROOMY = [house for house in SAMPLES if len(house[2]) < 40]


def fewest_by_trying(house):
    """Give for each floor the fewest steps to do all and end there, step by step from what so many steps come to."""
    floors, start, errands = house
    whole = (1 << len(errands)) - 1
    told = {}
    come = {0: {0}}
    gone = 0
    while len(told) < floors:
        for taken in come.pop(gone, ()):
            floor = (start + gone) % floors
            if taken == whole:
                told.setdefault(floor, gone)
            come.setdefault(gone + 1, set()).add(taken)
            for number, (begin, steps) in enumerate(errands):
                if begin == floor and not taken >> number & 1:
                    come.setdefault(gone + steps, set()).add(taken | 1 << number)
        gone += 1
    return [told[floor] for floor in range(floors)]


def go_row(house, row):
    """Go moves that need not come home; give the floor where they end, the steps, and the errands taken."""
    floors, floor, errands = house
    assert type(row) is tuple
    gone, taken = 0, []
    for move in row:
        if move is None:
            steps = 1
        else:
            assert type(move) is int and move not in taken and errands[move][0] == floor, (house, row)
            taken.append(move)
            steps = errands[move][1]
        floor = (floor + steps) % floors
        gone += steps
    return floor, gone, sorted(taken)


def short_errands(floors):
    return [(begin, steps) for begin in range(floors) for steps in range(1, floors + 1)]


class Interface(unittest.TestCase):
    def test_names_of_arguments(self):
        check_interface(self, module, SIGNATURES)

    def test_by_names(self):
        self.assertEqual(end_steps(floor=1, house=EMPTY_2), 1)
        self.assertEqual(end_row(floor=1, house=EMPTY_2), (None,))
        self.assertEqual(cost_of(errand=(0, 1), house=EMPTY_2), 1)
        self.assertEqual(days(many=3, house=EMPTY_2), 0)


class ByHand(unittest.TestCase):
    def test_no_errands(self):
        for house in (EMPTY_2, (2, 1, ()), EMPTY_16, (16, 0, ())):
            floors, start, _ = house
            for floor in range(floors):
                steps = (floor - start) % floors
                self.assertEqual(end_steps(house, floor), steps)
                self.assertEqual(end_row(house, floor), (None,) * steps)
            self.assertEqual(best_ends(house), (0, (start,)))
            self.assertEqual(good_starts(house), tuple(range(floors)))
            self.assertEqual(free_errands(house), ())
            self.assertEqual([days(house, many) for many in (1, 2, 10 ** 30)], [0, 0, 0])
            self.assertEqual({cost_of(house, errand) for errand in short_errands(floors) if errand[0] == start}, {1})
        self.assertEqual(cost_of((4, 1, ()), (0, 4)), 2)
        self.assertEqual(cost_of((4, 1, ()), (0, 2)), 2)
        self.assertEqual(cost_of((4, 1, ()), (0, 1)), 1)

    def test_the_house_of_point_14(self):
        house = (4, 1, ((1, 4),))
        self.assertEqual(cost_of(house, (0, 2)), 2)
        self.assertEqual(least_rounds(with_errand(house, (0, 2))), 3)
        self.assertEqual(good_starts(house), (1,))
        self.assertEqual(good_starts(TWO_LOTS), ())
        self.assertEqual(good_starts((4, 0, ((1, 2),))), (0, 1, 3))
        self.assertEqual(good_starts(LAIN_OVER), (1,))

    def test_days(self):
        self.assertEqual([days(TWO_LOTS, many) for many in (1, 2, 3)], [3, 5, 7])
        self.assertEqual(days(TWO_LOTS, 10 ** 30), 2 * 10 ** 30 + 1)
        self.assertEqual(days((4, 1, ((1, 4),)), 10 ** 30), 10 ** 30)
        self.assertEqual(days(HEAVIEST, 10 ** 30), 120 * 10 ** 30 + 1)

    def test_free_errands(self):
        self.assertEqual(free_errands((2, 0, ((0, 1),))), ((1, 1),))
        self.assertEqual(free_errands((4, 1, ((1, 4),))), ())
        self.assertEqual(free_errands((3, 0, ((0, 1),))), ((1, 1), (1, 2), (2, 1)))
        self.assertEqual(free_errands((3, 1, ((2, 2),))), ((1, 1),))


class ByTrying(unittest.TestCase):
    def check_ends(self, house):
        fewest = fewest_by_trying(house)
        for floor in range(house[0]):
            self.assertEqual(end_steps(house, floor), fewest[floor], (house, floor))
            self.check_row(house, floor)
        best = tuple(floor for floor in range(house[0]) if fewest[floor] == min(fewest))
        self.assertEqual(best_ends(house), (min(fewest), best))

    def check_row(self, house, floor):
        row = end_row(house, floor)
        self.assertTrue(plain_moves(row))
        told = go_row(house, row)
        self.assertEqual(told, (floor, end_steps(house, floor), list(range(len(house[2])))), house)

    def test_last_floors(self):
        for house in small_houses()[::2] + larger_houses(150, 6):
            self.check_ends(house)

    def test_rows_of_large_houses(self):
        for house in SAMPLES:
            told = [end_steps(house, floor) for floor in range(house[0])]
            for floor in (0, house[1], house[0] - 1):
                self.check_row(house, floor)
            best = tuple(floor for floor in range(house[0]) if told[floor] == min(told))
            self.assertEqual(best_ends(house), (min(told), best), house)
            self.assertTrue(plain(best_ends(house)))
            self.assertEqual(told[house[1]], house[0] * least_rounds(house))

    def test_the_words_of_point_16(self):
        for house in ROOMY:
            floors, start, _ = house
            for floor in range(floors):
                if floor != start:
                    home = (start - floor) % floors
                    more = least_rounds(with_errand(house, (floor, home)))
                    self.assertEqual(end_steps(house, floor), floors * more - home)

    def test_good_starts(self):
        for house in small_houses()[::3] + larger_houses(60, 5):
            most = max(loads_by_walking(house))
            good = [floor for floor in range(house[0])
                    if least_by_trying((house[0], floor, house[2]), most) == most]
            self.assertEqual(good_starts(house), tuple(good), house)

    def test_good_starts_of_large_houses(self):
        for house in SAMPLES:
            good = [floor for floor in range(house[0]) if least_rounds(started(house, floor)) == greatest(house)]
            self.assertEqual(good_starts(house), tuple(good))

    def check_costs(self, house, least, tried):
        free = []
        for errand in short_errands(house[0]):
            cost = tried((house[0], house[1], house[2] + (errand,))) - least
            self.assertEqual(cost_of(house, errand), cost, (house, errand))
            self.assertIn(cost, (0, 1, 2) if errand[1] > 1 else (0, 1))
            if cost == 0:
                free.append(errand)
        self.assertEqual(free_errands(house), tuple(free), house)

    def test_one_errand_more(self):
        def tried(house):
            return least_by_trying(house, max(loads_by_walking(house)))

        for house in small_houses()[::11] + [house for house in larger_houses(60, 3) if house[0] < 7]:
            self.check_costs(house, tried(house), tried)

    def test_one_errand_more_in_large_houses(self):
        for house in ROOMY[::3] + parted_houses(20, 39):
            if len(house[2]) < 40:
                self.check_costs(house, least_rounds(house), least_rounds)

    def test_days_by_trying(self):
        for house in small_houses()[::17]:
            for many in (1, 2, 3):
                if len(house[2]) * many < 7:
                    more = (house[0], house[1], house[2] * many)
                    tried = least_by_trying(more, max(loads_by_walking(more)))
                    self.assertEqual(days(house, many), tried, (house, many))

    def test_days_of_large_houses(self):
        for house in SAMPLES:
            self.assertEqual(days(house, 1), least_rounds(house))
            rest = least_rounds(house) - greatest(house)
            for many in (2, 7, 10 ** 30 - 1, 10 ** 30):
                self.assertEqual(days(house, many), many * greatest(house) + rest)
            if 0 < len(house[2]) <= 20:
                more = (house[0], house[1], house[2] * (40 // len(house[2])))
                self.assertEqual(days(house, 40 // len(house[2])), least_rounds(more))


class Laws(unittest.TestCase):
    def test_an_errand_less_never_costs(self):
        for house in SAMPLES[::2]:
            for number in range(0, len(house[2]), 5):
                less = without(house, number)
                self.assertLessEqual(least_rounds(less), least_rounds(house))
                self.assertLessEqual(loose_rounds(less), loose_rounds(house))

    def test_a_short_errand_more_costs_at_most_one_loose(self):
        for house in ROOMY[::4]:
            if house[2]:
                for errand in short_errands(house[0])[::5]:
                    self.assertLessEqual(loose_rounds(with_errand(house, errand)), loose_rounds(house) + 1)


class FortyErrands(unittest.TestCase):
    def test_one_more_to_the_start(self):
        for house in [house for house in SAMPLES if len(house[2]) == 40] + [FULL, HEAVIEST]:
            for floor in range(house[0]):
                told = go_row(house, end_row(house, floor))
                self.assertEqual(told, (floor, end_steps(house, floor), list(range(40))))
            self.assertEqual(best_ends(house)[0], min(end_steps(house, floor) for floor in range(house[0])))
            self.assertEqual(days(house, 1), least_rounds(house))
            good_starts(house)

    def test_by_hand(self):
        house = (2, 0, ((0, 6),) * 40)
        self.assertEqual(end_steps(house, 0), 240)
        self.assertEqual(end_steps(house, 1), 241)
        self.assertEqual(end_row(house, 1)[-1:], (None,))
        self.assertEqual(best_ends(house), (240, (0,)))
        house = (2, 0, ((0, 6),) * 39 + ((0, 5),))
        self.assertEqual((end_steps(house, 0), end_steps(house, 1)), (240, 239))
        self.assertEqual(best_ends(house), (239, (1,)))

    def test_no_forty_first_to_carry(self):
        for house in (FULL, HEAVIEST):
            self.assertEqual(refusal(TooMany, cost_of, house, (0, 1)).most, 40)
            self.assertEqual(refusal(TooMany, free_errands, house).most, 40)
            for thing in no_errands(house[0]) + [(0, house[0] + 1), (0, 3 * house[0])]:
                refusal(BadErrand, cost_of, house, thing)


class Refused(unittest.TestCase):
    def test_house_first(self):
        for thing, place in bad_houses():
            for call in (best_ends, good_starts, free_errands):
                self.assertEqual(refusal(BadHouse, call, thing).place, place)
            for call in (end_steps, end_row, cost_of, days):
                for other in (None, 0, -1, (0, 1)):
                    self.assertEqual(refusal(BadHouse, call, thing, other).place, place)

    def test_floors(self):
        for house in (EMPTY_2, EMPTY_16, TWO_LOTS, FULL):
            for thing in no_numbers() + [-1, -HUGE, house[0], house[0] + 1, HUGE]:
                for call in (end_steps, end_row):
                    self.assertIs(refusal(BadNumber, call, house, thing).about, thing)

    def test_errands(self):
        for house in (EMPTY_2, EMPTY_16, TWO_LOTS, MIXED):
            for thing in no_errands(house[0]):
                refusal(BadErrand, cost_of, house, thing)
            for begin in range(house[0]):
                for steps in range(house[0] + 1, 3 * house[0] + 1):
                    refusal(BadErrand, cost_of, house, (begin, steps))
                self.assertIn(cost_of(house, (begin, house[0])), (0, 1, 2))

    def test_days(self):
        for house in (EMPTY_2, TWO_LOTS, FULL):
            for thing in no_numbers() + [0, -1, -HUGE, 10 ** 30 + 1, HUGE]:
                self.assertIs(refusal(BadNumber, days, house, thing).about, thing)

    def test_what_is_told_is_plain(self):
        chance = random.Random(31)
        for house in chance.sample(ROOMY, 12):
            self.assertTrue(plain((good_starts(house), free_errands(house), days(house, 5), end_steps(house, 0))))


if __name__ == "__main__":
    unittest.main()
