"""Tests of oneseat.rides: points 0, 2 and 3."""

import unittest

from oneseat import rides as module
from oneseat.errors import BadHouse, BadRide
from oneseat.rides import halts, is_ride, order_of, rounds_of, taken_at
from tests.samples import (
    EMPTY_2, EMPTY_16, FULL, HUGE, MIXED, SIXTEEN_LOTS, bad_houses, check_interface, loads_by_walking, nested,
    no_moves, no_numbers, plain, plain_moves, refusal, spoilt_rides,
)
from tests.trying import Tries, first_bad, good_rides, larger_houses, walk

SIGNATURES = {
    "is_ride": "(house, thing)", "rounds_of": "(house, ride)", "halts": "(house, ride)", "taken_at": "(house, ride)",
    "order_of": "(house, ride)",
}
TELLING = (rounds_of, halts, taken_at, order_of)


class Interface(unittest.TestCase):
    def test_names_of_arguments(self):
        check_interface(self, module, SIGNATURES)

    def test_by_names(self):
        self.assertIs(is_ride(thing=(), house=EMPTY_2), True)
        self.assertEqual([call(ride=(), house=EMPTY_16) for call in TELLING], [0, (15,), (), ()])


class ByHand(unittest.TestCase):
    def test_no_moves(self):
        for house in (EMPTY_2, EMPTY_16):
            self.assertIs(is_ride(house, ()), True)
            self.assertEqual([call(house, ()) for call in TELLING], [0, (house[1],), (), ()])

    def test_the_start_may_be_come_by_ahead_of_the_end(self):
        house = (4, 1, ((1, 4), (0, 2)))
        ride = (0, None, None, None, 1, None, None, None)
        self.assertIs(is_ride(house, ride), True)
        self.assertEqual(rounds_of(house, ride), 3)
        self.assertEqual(halts(house, ride), (1, 1, 2, 3, 0, 2, 3, 0, 1))
        self.assertEqual(taken_at(house, ride), (0, 7))
        self.assertEqual(order_of(house, ride), (0, 1))

    def test_thrice_round_and_past_floors(self):
        house = (3, 2, ((1, 9), (2, 5), (1, 1)))
        ride = (1, 0, 2)
        self.assertEqual(halts(house, ride), (2, 1, 1, 2))
        self.assertEqual(rounds_of(house, ride), 5)
        self.assertEqual(taken_at(house, ride), (5, 0, 14))
        self.assertEqual(order_of(house, ride), (1, 0, 2))

    def test_refused_by_hand(self):
        house = (4, 1, ((1, 4), (0, 2)))
        for thing, number in (
            ((), 0), ((0,), 1), ((0, 0), 1), ((1,), 0), ((None, 0), 1), ((2,), 0), ((-1,), 0), ((True,), 0),
            ((False,), 0), (([0],), 0), ((0, None, None, None, 1), 5), ((0, None, None, None, None), 5),
            ((0, None, None, None, 1, None, None, None, 1), 8), (None, None), ([], None), ((HUGE,), 0), (("0",), 0),
            (((),), 0),
        ):
            self.assertIs(is_ride(house, thing), False, thing)
            for call in TELLING:
                self.assertEqual(refusal(BadRide, call, house, thing).number, number, thing)


class ByWalking(unittest.TestCase):
    def test_good_ones(self):
        for house, ride in good_rides():
            stands, many, ahead = walk(house, ride)
            self.assertIs(is_ride(house, ride), True)
            self.assertEqual(rounds_of(house, ride), many)
            self.assertEqual(halts(house, ride), stands)
            self.assertEqual(taken_at(house, ride), ahead)
            self.assertEqual(order_of(house, ride), tuple(sorted(range(len(house[2])), key=lambda at: ahead[at])))
            for call in TELLING:
                self.assertTrue(plain(call(house, ride)))
            self.assertTrue(plain_moves(ride))

    def test_each_step_is_bare_k_less_its_load_times(self):
        for house, ride in good_rides():
            stands = halts(house, ride)
            steps = [floor for floor, move in zip(stands, ride) if move is None]
            for step, load in enumerate(loads_by_walking(house)):
                self.assertEqual(steps.count(step), rounds_of(house, ride) - load)
            self.assertGreaterEqual(rounds_of(house, ride), max(loads_by_walking(house)))

    def test_all_rides_of_some_houses(self):
        for house in larger_houses(40, 4):
            most = max(loads_by_walking(house))
            for ride in Tries(house, most + 1).rides(limit=50):
                self.assertEqual(rounds_of(house, ride), most + 1)


class Refused(unittest.TestCase):
    def test_spoilt_ones_by_the_first_move_that_cant_be(self):
        seen = set()
        for house, ride in [pair for pair in good_rides() if len(pair[1]) < 1_000][::4]:
            for thing in spoilt_rides(house, ride):
                number = first_bad(house, thing)
                seen.add(number == "good")
                self.assertIs(is_ride(house, thing), number == "good")
                if number != "good":
                    for call in TELLING:
                        error = refusal(BadRide, call, house, thing)
                        self.assertEqual((error.number, type(error.number)), (number, type(number)))
        self.assertEqual(seen, {True, False})

    def test_no_tuples(self):
        for house in (EMPTY_2, EMPTY_16, MIXED, FULL):
            for thing in no_numbers() + [0, 1, HUGE, -HUGE]:
                if isinstance(thing, tuple):
                    continue
                before = repr(thing)
                self.assertIs(is_ride(house, thing), False)
                self.assertEqual(repr(thing), before)
                for call in TELLING:
                    self.assertIsNone(refusal(BadRide, call, house, thing).number)

    def test_tuples_of_anything(self):
        for house in (EMPTY_2, EMPTY_16, MIXED, FULL, SIXTEEN_LOTS):
            for thing in no_moves() + [nested(29), (None,) * 5, [None]]:
                for ahead in (0, 1, 7, 5000):
                    row = (None,) * ahead + (thing,)
                    before = repr(row)
                    self.assertIs(is_ride(house, row), False)
                    self.assertEqual(repr(row), before)
                    self.assertEqual(refusal(BadRide, halts, house, row).number, ahead)

    def test_left_errands_and_seats_elsewhere(self):
        for house in (MIXED, FULL, SIXTEEN_LOTS):
            for many in (0, house[0], 3 * house[0], 9_984 // house[0] * house[0]):
                self.assertEqual(refusal(BadRide, rounds_of, house, (None,) * many).number, many)
        for house in (EMPTY_2, EMPTY_16):
            for many in (1, house[0] + 1, 10_000 // house[0] * house[0] - 1):
                self.assertEqual(refusal(BadRide, rounds_of, house, (None,) * many).number, many)

    def test_alike_errands_are_taken_once_each(self):
        house = (2, 0, ((0, 2), (0, 2)))
        self.assertIs(is_ride(house, (0, 1)), True)
        self.assertIs(is_ride(house, (1, 0)), True)
        self.assertEqual(refusal(BadRide, order_of, house, (0, 0)).number, 1)
        self.assertEqual(refusal(BadRide, order_of, house, (0, 1, 1)).number, 2)

    def test_houses_ahead_of_rides(self):
        for thing, place in bad_houses():
            for call in (is_ride,) + TELLING:
                for ride in ((), None, (True,), [0]):
                    self.assertEqual(refusal(BadHouse, call, thing, ride).place, place)


if __name__ == "__main__":
    unittest.main()
