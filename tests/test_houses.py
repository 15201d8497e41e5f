"""Tests of oneseat.houses: points 0, 1 and 3."""

import inspect
import unittest

from oneseat import houses
from oneseat.errors import BadErrand, BadHouse, BadNumber, TooMany
from oneseat.houses import (
    ends, greatest, is_house, lies_over, loads, need_house, rolled, started, with_errand, without,
)
from tests.samples import (
    EMPTY_2, EMPTY_16, FULL, HUGE, MIXED, bad_houses, no_errands, no_numbers, plain, refusal, sample_houses, walked,
)

SIGNATURES = {
    "is_house": "(thing)", "need_house": "(house)", "ends": "(house)", "loads": "(house)",
    "lies_over": "(house, number)", "greatest": "(house)", "with_errand": "(house, errand)",
    "without": "(house, number)", "started": "(house, floor)", "rolled": "(house, many)",
}


class Good(unittest.TestCase):
    def test_houses_are_taken(self):
        for house in sample_houses():
            self.assertIs(is_house(house), True, house)
            self.assertIsNone(need_house(house), house)

    def test_each_ring_and_each_start(self):
        for floors in range(-1, 20):
            for start in range(-2, floors + 3):
                good = 2 <= floors <= 16 and 0 <= start < floors
                self.assertIs(is_house((floors, start, ())), good, (floors, start))

    def test_none_to_40_errands(self):
        for many in (0, 1, 39, 40):
            self.assertIs(is_house((2, 0, ((1, 6),) * many)), True)
        for many in (41, 42, 9000):
            self.assertIs(is_house((2, 0, ((1, 6),) * many)), False)

    def test_edges_of_errands(self):
        for floors in range(2, 17):
            for errand in ((0, 1), (floors - 1, 1), (0, 3 * floors), (floors - 1, 3 * floors)):
                self.assertIs(is_house((floors, 0, (errand,))), True)
            for errand in ((-1, 1), (floors, 1), (0, 0), (0, 3 * floors + 1)):
                self.assertIs(is_house((floors, 0, (errand,))), False)
                self.assertEqual(refusal(BadHouse, need_house, (floors, 0, ((0, 1), errand))).place, 1)

    def test_others_are_refused_by_the_first_place(self):
        for thing, place in bad_houses():
            before = repr(thing)
            self.assertIs(is_house(thing), False, before)
            error = refusal(BadHouse, need_house, thing)
            self.assertEqual((error.place, type(error.place)), (place, type(place)), before)
            self.assertEqual(repr(thing), before)


class Interface(unittest.TestCase):
    def test_names_of_arguments(self):
        for name, signature in SIGNATURES.items():
            self.assertEqual(str(inspect.signature(getattr(houses, name))), signature, name)
            self.assertEqual(getattr(houses, name).__module__, "oneseat.houses")

    def test_by_names(self):
        self.assertIs(is_house(thing=MIXED), True)
        self.assertEqual(lies_over(number=1, house=MIXED), (1, 0, 0, 0, 1))
        self.assertEqual(with_errand(errand=(1, 1), house=EMPTY_2), (2, 0, ((1, 1),)))
        self.assertEqual(without(number=0, house=(2, 0, ((1, 1),))), EMPTY_2)
        self.assertEqual(started(floor=1, house=EMPTY_2), (2, 1, ()))
        self.assertEqual(rolled(many=1, house=EMPTY_2), (2, 1, ()))

    def test_bad_houses_are_refused_ahead_of_all_else(self):
        calls = [lambda house, call=call: call(house) for call in (ends, loads, greatest)]
        for call in (lies_over, with_errand, without, started, rolled):
            for other in (None, True, "0", [], (9, 9, 9), -HUGE, 0, (0, 1)):
                calls.append(lambda house, call=call, other=other: call(house, other))
        for thing, place in bad_houses():
            for call in calls:
                self.assertEqual(refusal(BadHouse, call, thing).place, place, repr(thing))


class Ends(unittest.TestCase):
    def test_by_hand(self):
        self.assertEqual(ends(EMPTY_2), ())
        self.assertEqual(ends(MIXED), (0, 1, 0, 0, 1, 0))
        self.assertEqual(ends((2, 0, ((0, 1), (1, 1), (0, 2), (1, 6), (1, 5)))), (1, 0, 0, 1, 0))
        self.assertEqual(ends((16, 0, ((15, 1), (15, 48), (0, 47), (3, 4)))), (0, 15, 15, 7))

    def test_by_walking(self):
        for house in sample_houses():
            told = ends(house)
            self.assertEqual(told, tuple(walked(house[0], errand)[1] for errand in house[2]))
            self.assertTrue(plain(told))


class Loads(unittest.TestCase):
    def test_by_hand(self):
        self.assertEqual(loads(EMPTY_2), (0, 0))
        self.assertEqual(loads(EMPTY_16), (0,) * 16)
        self.assertEqual(loads((4, 1, ((1, 4),))), (1, 1, 1, 1))
        self.assertEqual(loads((4, 1, ((1, 4), (0, 2)))), (2, 2, 1, 1))
        self.assertEqual(loads(MIXED), (9, 8, 10, 10, 12))
        self.assertEqual(loads((2, 0, ((1, 1), (1, 1), (1, 3)))), (1, 4))
        self.assertEqual(loads((2, 0, ((0, 6),) * 40)), (120, 120))

    def test_by_walking(self):
        for house in sample_houses():
            rows = [walked(house[0], errand)[0] for errand in house[2]]
            told = loads(house)
            self.assertEqual(told, tuple(sum(row[step] for row in rows) for step in range(house[0])))
            self.assertTrue(plain(told))
            self.assertEqual(greatest(house), max(told))
            self.assertIs(type(greatest(house)), int)

    def test_greatest(self):
        self.assertEqual(greatest(EMPTY_2), 0)
        self.assertEqual(greatest(EMPTY_16), 0)
        self.assertEqual(greatest(MIXED), 12)
        self.assertEqual(greatest((4, 1, ((1, 4), (0, 2)))), 2)
        self.assertEqual(greatest((2, 0, ((0, 6),) * 40)), 120)
        self.assertEqual(greatest((16, 0, ((15, 1),))), 1)


class LiesOver(unittest.TestCase):
    def test_by_hand(self):
        self.assertEqual(lies_over(MIXED, 0), (1, 1, 1, 1, 1))
        self.assertEqual(lies_over(MIXED, 1), (1, 0, 0, 0, 1))
        self.assertEqual(lies_over(MIXED, 2), (2, 2, 3, 3, 3))
        self.assertEqual(lies_over(MIXED, 4), (3, 3, 3, 3, 3))
        self.assertEqual(lies_over(MIXED, 5), (0, 0, 0, 0, 1))

    def test_by_walking(self):
        for house in sample_houses():
            for number, errand in enumerate(house[2]):
                told = lies_over(house, number)
                self.assertEqual(told, tuple(walked(house[0], errand)[0]))
                self.assertTrue(plain(told))

    def test_alike_ones(self):
        self.assertEqual(lies_over(MIXED, 2), lies_over(MIXED, 3))

    def test_others_are_refused(self):
        for house in (EMPTY_2, EMPTY_16, MIXED, FULL):
            many = len(house[2])
            for thing in no_numbers() + [-1, many, many + 1, -HUGE, HUGE]:
                self.assertIs(refusal(BadNumber, lies_over, house, thing).about, thing)


class WithErrand(unittest.TestCase):
    def test_behind_all_others(self):
        self.assertEqual(with_errand(EMPTY_2, (1, 6)), (2, 0, ((1, 6),)))
        self.assertEqual(with_errand((2, 0, ((1, 6),)), (0, 1)), (2, 0, ((1, 6), (0, 1))))
        self.assertEqual(with_errand((2, 0, ((1, 6),)), (1, 6)), (2, 0, ((1, 6), (1, 6))))
        self.assertEqual(with_errand(EMPTY_16, (15, 48)), (16, 15, ((15, 48),)))

    def test_up_to_the_40th(self):
        for errand in ((0, 1), (15, 48), (15, 1), (0, 48)):
            house = (16, 15, ())
            for many in range(40):
                house = with_errand(house, errand)
                self.assertEqual(house, (16, 15, (errand,) * (many + 1)))
            self.assertTrue(plain(house))
            self.assertEqual(refusal(TooMany, with_errand, house, errand).most, 40)

    def test_others_are_refused(self):
        for house in (EMPTY_2, EMPTY_16, MIXED, FULL):
            for thing in no_errands(house[0]):
                refusal(BadErrand, with_errand, house, thing)

    def test_what_was_handed_in_stays(self):
        house = (5, 3, ((0, 5),))
        with_errand(house, (1, 1))
        self.assertEqual(house, (5, 3, ((0, 5),)))


class Without(unittest.TestCase):
    def test_each_number(self):
        for house in (MIXED, FULL, (2, 0, ((1, 6),))):
            floors, start, errands = house
            for number in range(len(errands)):
                told = without(house, number)
                rest = [errand for at, errand in enumerate(errands) if at != number]
                self.assertEqual(told, (floors, start, tuple(rest)))
                self.assertTrue(plain(told))

    def test_one_of_alike_ones(self):
        house = (2, 1, ((0, 1), (1, 1), (0, 1)))
        self.assertEqual(without(house, 0), (2, 1, ((1, 1), (0, 1))))
        self.assertEqual(without(house, 2), (2, 1, ((0, 1), (1, 1))))
        self.assertEqual(house, (2, 1, ((0, 1), (1, 1), (0, 1))))

    def test_takes_back_with_errand(self):
        self.assertEqual(without(with_errand(MIXED, (3, 3)), len(MIXED[2])), MIXED)

    def test_others_are_refused(self):
        for house in (EMPTY_2, EMPTY_16, MIXED, FULL):
            many = len(house[2])
            for thing in no_numbers() + [-1, -many, many, many + 1, 41, -HUGE, HUGE]:
                self.assertIs(refusal(BadNumber, without, house, thing).about, thing)

    def test_none_is_left_of_none(self):
        self.assertEqual(refusal(BadNumber, without, EMPTY_2, 0).about, 0)


class Started(unittest.TestCase):
    def test_each_floor(self):
        for house in (EMPTY_2, EMPTY_16, MIXED, FULL):
            for floor in range(house[0]):
                told = started(house, floor)
                self.assertEqual(told, (house[0], floor, house[2]))
                self.assertTrue(plain(told))

    def test_others_are_refused(self):
        for house in (EMPTY_2, EMPTY_16, MIXED, FULL):
            for thing in no_numbers() + [-1, house[0], house[0] + 1, -HUGE, HUGE]:
                self.assertIs(refusal(BadNumber, started, house, thing).about, thing)


class Rolled(unittest.TestCase):
    def test_by_hand(self):
        house = (4, 3, ((0, 1), (3, 12), (2, 5)))
        self.assertEqual(rolled(house, 0), house)
        self.assertEqual(rolled(house, 1), (4, 0, ((1, 1), (0, 12), (3, 5))))
        self.assertEqual(rolled(house, -1), (4, 2, ((3, 1), (2, 12), (1, 5))))
        self.assertEqual(rolled(house, 4), house)
        self.assertEqual(rolled(house, -400), house)
        self.assertEqual(rolled(house, 4 * 10 ** 900 + 3), (4, 2, ((3, 1), (2, 12), (1, 5))))
        self.assertEqual(rolled(house, -4 * 10 ** 900 - 3), (4, 0, ((1, 1), (0, 12), (3, 5))))

    def test_loads_and_ends_go_with_it(self):
        for house in sample_houses():
            floors = house[0]
            for many in (-3 * floors - 1, -floors, -1, 0, 1, floors - 1, floors, 7 * floors + 5, HUGE, -HUGE):
                told = rolled(house, many)
                self.assertIs(is_house(told), True)
                self.assertTrue(plain(told))
                self.assertEqual(told[1], (house[1] + many) % floors)
                self.assertEqual(ends(told), tuple((floor + many) % floors for floor in ends(house)))
                for step, load in enumerate(loads(house)):
                    self.assertEqual(loads(told)[(step + many) % floors], load)
                self.assertEqual(rolled(told, -many), house)

    def test_others_are_refused(self):
        for house in (EMPTY_2, EMPTY_16, MIXED, FULL):
            for thing in no_numbers():
                self.assertIs(refusal(BadNumber, rolled, house, thing).about, thing)


if __name__ == "__main__":
    unittest.main()
