"""Tests of oneseat.least: points 2 and 5."""

import unittest

from oneseat import least as module
from oneseat.errors import BadHouse, BadNumber, TooFew
from oneseat.least import can_ride, least_rounds, ride_of
from oneseat.rides import is_ride
from tests.samples import (
    EMPTY_2, EMPTY_16, FULL, HEAVIEST, LAIN_OVER, MIXED, SIXTEEN_LOTS, TWO_LOTS, bad_houses, bad_rounds,
    check_interface, check_rounds, loads_by_walking, plain_moves, refusal, sample_houses,
)
from tests.trying import Tries, larger_houses, least_by_trying, parted_houses, small_houses, walk

SIGNATURES = {
    "least_rounds": "(house)", "can_ride": "(house, rounds)", "ride_of": "(house, *, rounds=None)",
}
SAMPLES = sample_houses() + [TWO_LOTS, LAIN_OVER, SIXTEEN_LOTS, HEAVIEST] + parted_houses()


class Interface(unittest.TestCase):
    def test_names_of_arguments(self):
        check_interface(self, module, SIGNATURES)

    def test_by_names(self):
        self.assertIs(can_ride(rounds=0, house=EMPTY_2), True)
        self.assertEqual(ride_of(rounds=1, house=EMPTY_2), (None, None))


class ByHand(unittest.TestCase):
    def test_least_rounds(self):
        for house, many in (
            (EMPTY_2, 0), (EMPTY_16, 0), ((4, 1, ((1, 4),)), 1), (TWO_LOTS, 3), (LAIN_OVER, 2), (SIXTEEN_LOTS, 17),
            (HEAVIEST, 121), ((2, 0, ((0, 6),) * 40), 120), ((2, 1, ((0, 6),) * 40), 121), ((2, 0, ((0, 1),)), 1),
            ((2, 0, ((1, 1),)), 1), ((4, 1, ((0, 2),)), 2), ((4, 3, ((0, 2),)), 1), ((4, 1, ((0, 4),)), 2),
        ):
            self.assertEqual(least_rounds(house), many, house)

    def test_can_ride(self):
        for house, least in (
            (EMPTY_2, 0), (EMPTY_16, 0), (TWO_LOTS, 3), (LAIN_OVER, 2), (SIXTEEN_LOTS, 17), (MIXED, 12),
        ):
            for many in range(131):
                self.assertIs(can_ride(house, many), many >= least, (house, many))

    def test_rides_of_no_errands(self):
        self.assertEqual(ride_of(EMPTY_2), ())
        self.assertEqual(ride_of(EMPTY_16, rounds=None), ())
        self.assertEqual(ride_of(EMPTY_16, rounds=0), ())
        self.assertEqual(ride_of(EMPTY_16, rounds=130), (None,) * 2080)


class ByTrying(unittest.TestCase):
    def test_small_houses(self):
        for house in small_houses():
            least = least_by_trying(house, max(loads_by_walking(house)))
            self.assertEqual(least_rounds(house), least, house)
            for many in range(least + 2):
                self.assertIs(can_ride(house, many), many >= least)
            self.assertEqual(walk(house, ride_of(house))[1], least)

    def test_larger_houses(self):
        for house in larger_houses() + parted_houses(60, 8):
            most = max(loads_by_walking(house))
            for many in (most, most + 1, most + 2):
                self.assertIs(can_ride(house, many), Tries(house, many).how_many() > 0, (house, many))


class Rides(unittest.TestCase):
    def test_each_is_walked(self):
        for house in SAMPLES + larger_houses():
            least = least_rounds(house)
            for named, many in (
                ({}, least), ({"rounds": None}, least), ({"rounds": least}, least), ({"rounds": least + 1}, least + 1),
                ({"rounds": 130}, 130),
            ):
                ride = ride_of(house, **named)
                self.assertEqual(walk(house, ride)[1], many)
                self.assertTrue(plain_moves(ride))
                self.assertIs(is_ride(house, ride), True)

    def test_each_number_of_rounds(self):
        for house in (EMPTY_2, MIXED, TWO_LOTS, FULL):
            for many in range(least_rounds(house), 131):
                self.assertEqual(walk(house, ride_of(house, rounds=many))[1], many)

    def test_greatest_or_one_more(self):
        for house in SAMPLES + larger_houses():
            self.assertIn(least_rounds(house) - max(loads_by_walking(house)), (0, 1))


class Refused(unittest.TestCase):
    def test_house_and_rounds_ahead_of_all_else(self):
        check_rounds(self, ride_of)

    def test_greatest_where_there_is_none(self):
        told = 0
        for house in SAMPLES + small_houses():
            most = max(loads_by_walking(house))
            if least_rounds(house) > most:
                told += 1
                self.assertEqual(refusal(TooFew, ride_of, house, rounds=most).least, most + 1)
                if most:
                    self.assertEqual(refusal(TooFew, ride_of, house, rounds=most - 1).least, most)
        self.assertGreater(told, 100)

    def test_numbers_of_rounds_that_are_none(self):
        for house in (EMPTY_2, EMPTY_16, MIXED, FULL, SIXTEEN_LOTS):
            for thing in bad_rounds() + [None]:
                self.assertIs(refusal(BadNumber, can_ride, house, thing).about, thing)

    def test_bad_houses(self):
        for thing, place in bad_houses():
            self.assertEqual(refusal(BadHouse, least_rounds, thing).place, place)
            for rounds in (0, None, -1, 131, "1"):
                self.assertEqual(refusal(BadHouse, can_ride, thing, rounds).place, place)


if __name__ == "__main__":
    unittest.main()
