"""Tests of oneseat.numbers: points 12 and 13."""

import random
import unittest

from oneseat import numbers as module
from oneseat.errors import BadHouse, BadNumber, BadRide, TooFew, TooMany
from oneseat.least import least_rounds, ride_of
from oneseat.numbers import MOST_MOVES, nth_ride, number_of
from oneseat.trees import how_many_rides
from tests.samples import (
    EMPTY_2, EMPTY_16, FULL, HEAVIEST, HUGE, LAIN_OVER, MIXED, SIXTEEN_LOTS, TWO_LOTS, bad_houses, bad_rounds,
    check_interface, check_rounds, loads_by_walking, no_numbers, plain_moves, refusal, spoilt_rides,
)
from tests.trying import Tries, first_bad, good_rides, larger_houses, small_houses, walk

SIGNATURES = {"nth_ride": "(house, number, *, rounds=None)", "number_of": "(house, ride)"}
# Just so many moves as are numbered, with errands alone, with bare steps too, and without errands.
FORTY = [
    ((2, 0, ((0, 2),) * 40), 40), ((2, 0, ((0, 2),) * 38), 39), (EMPTY_2, 20), ((4, 3, ()), 10),
    ((2, 1, ((0, 2),) * 38), 39), ((2, 0, ((0, 1), (1, 1)) * 20), 20), ((4, 1, ((1, 4), (0, 2))), 11),
    ((16, 0, tuple((floor, 33) for floor in range(16)) + ((0, 16),) * 24), 57),
]
MORE_THAN_FORTY = [
    ((2, 0, ((0, 2),) * 39), 40), ((2, 1, ((0, 2),) * 40), None), (EMPTY_2, 21), ((4, 1, ((1, 4), (0, 2))), 12),
    (EMPTY_16, 3), (EMPTY_16, 130), (FULL, None), (HEAVIEST, None), (SIXTEEN_LOTS, 18), (MIXED, 18),
]


def rising(ride):
    """Give what rides rise by, None ahead of all numbers."""
    return [-1 if move is None else move for move in ride]


def moves_of(house, many):
    return len(house[2]) + sum(many - load for load in loads_by_walking(house))


def closed_walks():
    """Give houses whose forty errands lead from one to the next, and home: of many rides of forty moves."""
    chance = random.Random(17)
    told = []
    for floors in (2, 3, 5, 8, 12, 16):
        start = floor = chance.randrange(floors)
        errands = []
        for _ in range(39):
            errands.append((floor, chance.randint(1, floors)))
            floor = (floor + errands[-1][1]) % floors
        errands.append((floor, (start - floor) % floors or floors))
        chance.shuffle(errands)
        told.append((floors, start, tuple(errands)))
    return [house for house in told if moves_of(house, least_rounds(house)) <= 40]


class Interface(unittest.TestCase):
    def test_names_of_arguments(self):
        check_interface(self, module, SIGNATURES)
        self.assertIs(type(MOST_MOVES), int)
        self.assertEqual(MOST_MOVES, 40)

    def test_by_names(self):
        self.assertEqual(nth_ride(rounds=1, number=0, house=EMPTY_2), (None, None))
        self.assertEqual(number_of(ride=(None, None), house=EMPTY_2), 0)


class ByHand(unittest.TestCase):
    def test_no_errands(self):
        for house in (EMPTY_2, EMPTY_16):
            self.assertEqual(nth_ride(house, 0), ())
            self.assertEqual(number_of(house, ()), 0)
            self.assertEqual(refusal(BadNumber, nth_ride, house, 1).about, 1)
        self.assertEqual(nth_ride(EMPTY_16, 0, rounds=2), (None,) * 32)

    def test_two_rides(self):
        told = [nth_ride(TWO_LOTS, number) for number in range(how_many_rides(TWO_LOTS))]
        self.assertEqual(told, Tries(TWO_LOTS, 3).rides())
        self.assertEqual([number_of(TWO_LOTS, ride) for ride in told], [0, 1])

    def test_alike_ones(self):
        house = (2, 0, ((0, 2),) * 3)
        order = [(0, 1, 2), (0, 2, 1), (1, 0, 2), (1, 2, 0), (2, 0, 1), (2, 1, 0)]
        self.assertEqual([nth_ride(house, number) for number in range(6)], order)
        self.assertEqual(refusal(BadNumber, nth_ride, house, 6).about, 6)

    def test_bare_steps_ahead_of_numbers(self):
        house = (2, 0, ((0, 2),))
        self.assertEqual([nth_ride(house, number, rounds=2) for number in (0, 1)], [(None, None, 0), (0, None, None)])

    def test_where_there_is_no_ride(self):
        for house in (TWO_LOTS, LAIN_OVER, SIXTEEN_LOTS):
            most = max(loads_by_walking(house))
            for number in (0, 1, -1, HUGE):
                self.assertEqual(refusal(BadNumber, nth_ride, house, number, rounds=most).about, number)


class ByTrying(unittest.TestCase):
    def check(self, house, many, limit):
        if moves_of(house, many) > 40:
            return
        tries = Tries(house, many)
        rides = tries.rides(limit)
        self.assertEqual(rides, sorted(rides, key=rising))
        for number, ride in enumerate(rides):
            told = nth_ride(house, number, rounds=many)
            self.assertEqual(told, ride, (house, many, number))
            self.assertTrue(plain_moves(told))
            self.assertEqual(number_of(house, ride), number)
        how_many = tries.how_many()
        for number in (-1, how_many, how_many + 1):
            self.assertEqual(refusal(BadNumber, nth_ride, house, number, rounds=many).about, number)
        if how_many:
            last = nth_ride(house, how_many - 1, rounds=many)
            self.assertEqual(number_of(house, last), how_many - 1)
            self.assertEqual(walk(house, last)[1], many)

    def test_small_houses(self):
        for house in small_houses()[::7]:
            most = max(loads_by_walking(house))
            for many in (most, most + 1, most + 2):
                self.check(house, many, 30)
        for house in small_houses()[::101]:
            self.check(house, least_rounds(house), None)

    def test_larger_houses(self):
        for house in larger_houses(120):
            most = max(loads_by_walking(house))
            for many in (most, most + 1):
                self.check(house, many, 40)

    def test_the_least_rounds_where_none_are_told(self):
        for house in small_houses()[::97]:
            for number in range(min(3, how_many_rides(house))):
                told = nth_ride(house, number)
                self.assertEqual(told, nth_ride(house, number, rounds=least_rounds(house)))
                self.assertEqual(told, nth_ride(house, number, rounds=None))


class ManyMoves(unittest.TestCase):
    def test_forty_moves(self):
        for house, many in FORTY:
            self.assertEqual(moves_of(house, many), 40)
            how_many = how_many_rides(house, rounds=many)
            for number in sorted({0, how_many // 3, how_many - 1}):
                ride = nth_ride(house, number, rounds=many)
                self.assertEqual(walk(house, ride)[1], many)
                self.assertEqual(number_of(house, ride), number)
            self.assertEqual(refusal(BadNumber, nth_ride, house, how_many, rounds=many).about, how_many)

    def test_neighbours_rise(self):
        chance = random.Random(19)
        self.assertGreater(len(closed_walks()), 3)
        for house in closed_walks():
            how_many = how_many_rides(house)
            for number in [0, how_many - 2] + [chance.randrange(how_many - 1) for _ in range(3)]:
                ride, other = nth_ride(house, number), nth_ride(house, number + 1)
                self.assertLess(rising(ride), rising(other))
                self.assertEqual((number_of(house, ride), number_of(house, other)), (number, number + 1))

    def test_more_moves(self):
        for house, many in MORE_THAN_FORTY:
            rounds = least_rounds(house) if many is None else many
            self.assertGreater(moves_of(house, rounds), 40)
            how_many = how_many_rides(house, rounds=many)
            for number in (0, how_many - 1):
                self.assertEqual(refusal(TooMany, nth_ride, house, number, rounds=many).most, 40)
            self.assertEqual(refusal(TooMany, number_of, house, ride_of(house, rounds=many)).most, 40)
            # What is wrong is refused ahead of that.
            for thing in no_numbers() + [-1, how_many]:
                self.assertIs(refusal(BadNumber, nth_ride, house, thing, rounds=many).about, thing)
            self.assertEqual(refusal(BadRide, number_of, house, ride_of(house, rounds=many) + (0,)).number,
                             first_bad(house, ride_of(house, rounds=many) + (0,)))


class Refused(unittest.TestCase):
    def test_house_and_rounds_first(self):
        for thing in (0, None, "x", HUGE):
            check_rounds(self, nth_ride, thing)
        for thing, place in bad_houses():
            self.assertEqual(refusal(BadHouse, number_of, thing, None).place, place)

    def test_numbers(self):
        for house in (EMPTY_2, EMPTY_16, TWO_LOTS, (2, 0, ((0, 2),) * 3)):
            for thing in no_numbers() + [-1, -HUGE, HUGE]:
                self.assertIs(refusal(BadNumber, nth_ride, house, thing).about, thing)
            for thing in bad_rounds():
                self.assertIs(refusal(BadNumber, nth_ride, house, -1, rounds=thing).about, thing)
        self.assertEqual(refusal(TooFew, nth_ride, TWO_LOTS, None, rounds=1).least, 2)

    def test_rides(self):
        for house, ride in good_rides()[::5]:
            for thing in spoilt_rides(house, ride) if len(ride) < 50 else [list(ride), ride[1:]]:
                bad = first_bad(house, thing)
                if bad != "good":
                    self.assertEqual(refusal(BadRide, number_of, house, thing).number, bad)
        for thing in no_numbers():
            if not isinstance(thing, tuple):
                self.assertIsNone(refusal(BadRide, number_of, EMPTY_2, thing).number)


if __name__ == "__main__":
    unittest.main()
