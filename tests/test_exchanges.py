"""Tests of oneseat.exchanges: points 2 and 10."""

import itertools
import random
import unittest

from oneseat import exchanges as module
from oneseat.errors import BadExchange, BadHouse, BadRide, Unlike
from oneseat.exchanges import alike, exchanged, is_exchange, path
from oneseat.least import least_rounds, ride_of
from oneseat.nexts import barred, goes_on, there
from tests.samples import (
    EMPTY_2, EMPTY_16, FULL, HUGE, MIXED, SIXTEEN_LOTS, TWO_LOTS, bad_houses, check_interface, loads_by_walking,
    no_numbers, plain, plain_moves, refusal, spoilt_rides,
)
from tests.trying import Tries, first_bad, good_rides, larger_houses, parted_houses, small_houses, walk

SIGNATURES = {
    "is_exchange": "(house, ride, thing)", "exchanged": "(house, ride, places)", "alike": "(ride, other)",
    "path": "(house, ride, other)",
}


def exchange_by_words(house, ride, thing):
    """Tell whether four numbers are an exchange, as point 10 tells it."""
    begin, end, other, last = thing
    if not (0 <= begin < end and end <= other < last and last <= len(ride)):
        return False
    stands = walk(house, ride)[0]
    return stands[begin] == stands[other] and stands[end] == stands[last]


def exchanged_by_words(ride, thing):
    """Give the ride, put together move by move."""
    begin, end, other, last = thing
    told = [ride[at] for at in range(begin)]
    told += [ride[at] for at in range(other, last)] + [ride[at] for at in range(end, other)]
    told += [ride[at] for at in range(begin, end)] + [ride[at] for at in range(last, len(ride))]
    return tuple(told)


def alike_by_words(ride, other):
    return max(many for many in range(min(len(ride), len(other)) + 1) if ride[:many] == other[:many])


def some_ride(chance, house, many):
    """Give a ride of so many rounds, its moves chosen one by one."""
    begun = ()
    while True:
        shut = barred(house, begun, rounds=many)
        here = [move for move in there(house, begun, rounds=many) if move not in shut]
        if not here or len(begun) > 200:
            return goes_on(house, begun, rounds=many)
        begun += (chance.choice(here),)


def no_exchanges():
    """Give things of every kind that are no exchange of any ride, made anew."""
    told = no_numbers() + [0, -1, HUGE, "0123", (0, 1, 1), (0, 1, 1, 2, 3), [0, 1, 1, 2], ((0, 1), (1, 2))]
    told += [((0, 1, 1, 2),), {0: 1, 1: 2}, {0, 1, 2, 3}, (0, 1, 1, HUGE), (-HUGE, 1, 1, 2), (-1, 0, 1, 2)]
    for at in range(4):
        for thing in no_numbers():
            told.append((0, 1, 1, 2)[:at] + (thing,) + (0, 1, 1, 2)[at + 1:])
    return told


class Interface(unittest.TestCase):
    def test_names_of_arguments(self):
        check_interface(self, module, SIGNATURES)

    def test_by_names(self):
        house = (2, 0, ((0, 2), (0, 2)))
        self.assertIs(is_exchange(thing=(0, 1, 1, 2), ride=(0, 1), house=house), True)
        self.assertEqual(exchanged(places=(0, 1, 1, 2), ride=(0, 1), house=house), (1, 0))
        self.assertEqual(alike(other=(0, 1), ride=(0, 1)), 2)
        self.assertEqual(path(other=(1, 0), ride=(0, 1), house=house), ((0, 1, 1, 2),))


class ByHand(unittest.TestCase):
    def test_parts(self):
        house = (3, 0, ((0, 3), (1, 3), (0, 3)))
        ride = (0, None, 1, None, None, 2)
        for thing, good in (
            ((0, 1, 5, 6), True), ((0, 1, 1, 5), True), ((0, 5, 5, 6), True), ((1, 2, 2, 3), False),
            ((0, 0, 5, 6), False), ((0, 1, 5, 5), False), ((0, 5, 1, 6), False), ((5, 6, 0, 1), False),
            ((0, 1, 5, 7), False), ((0, 1, 6, 7), False), ((-6, 1, 5, 6), False), ((0, 1, 2, 3), False),
            ((1, 2, 5, 6), False), ((0, 1, 1, 6), True), ((0, 2, 2, 3), False), ((1, 5, 0, 1), False),
        ):
            self.assertIs(is_exchange(house, ride, thing), good, thing)
        self.assertEqual(exchanged(house, ride, (0, 1, 5, 6)), (2, None, 1, None, None, 0))
        self.assertEqual(exchanged(house, ride, (0, 1, 1, 5)), (None, 1, None, None, 0, 2))
        self.assertEqual(exchanged(house, ride, (0, 5, 5, 6)), (2, 0, None, 1, None, None))

    def test_alike_parts_change_too(self):
        self.assertIs(is_exchange(EMPTY_2, (None,) * 4, (0, 1, 2, 3)), True)
        self.assertIs(is_exchange(EMPTY_2, (None,) * 4, (0, 2, 2, 4)), True)
        self.assertIs(is_exchange(EMPTY_2, (None,) * 4, (0, 1, 1, 2)), False)
        self.assertEqual(exchanged(EMPTY_2, (None,) * 4, (0, 1, 2, 3)), (None,) * 4)

    def test_rides_without_moves(self):
        self.assertIs(is_exchange(EMPTY_2, (), (0, 0, 0, 0)), False)
        self.assertEqual(path(EMPTY_2, (), ()), ())
        self.assertEqual(alike((), ()), 0)

    def test_alike(self):
        for ride, other, many in (
            ((), (None,), 0), ((None,), (None, None), 1), ((0, None), (0, 1), 1), ((0, 1), (None, 1), 0),
            ((0, 1, 2), (0, 1, 2), 3), ((2, 1, 0), (2, 0, 1), 1),
        ):
            self.assertEqual(alike(ride, other), many)
            self.assertEqual(alike(other, ride), many)
        self.assertIs(type(alike((0,), (0,))), int)

    def test_a_way_that_comes_back_to_the_halt(self):
        # Behind errand 1 the seat is at floor 0 once more: two parts side by side change places.
        house = (2, 0, ((0, 2), (0, 2)))
        self.assertEqual(path(house, (0, 1), (1, 0)), ((0, 1, 1, 2),))

    def test_a_way_that_does_not_come_back(self):
        # From floor 1 the one goes by errand 1, and comes by errand 2 home and never back: floor 2 is halted at twice.
        house = (3, 0, ((0, 1), (1, 1), (1, 2), (2, 2), (0, 2), (2, 1)))
        ride, other = (0, 1, 3, 2, 4, 5), (0, 2, 4, 3, 1, 5)
        self.assertEqual((walk(house, ride)[1], walk(house, other)[1]), (3, 3))
        self.check_way(house, ride, other)
        self.check_way(house, other, ride)

    def check_way(self, house, ride, other):
        for thing in path(house, ride, other):
            ride = exchanged(house, ride, thing)
        self.assertEqual(ride, other)


class ByTrying(unittest.TestCase):
    def check_exchanges(self, house, ride):
        places = range(-1, len(ride) + 2)
        for thing in itertools.product(places, repeat=4):
            good = exchange_by_words(house, ride, thing)
            self.assertIs(is_exchange(house, ride, thing), good, (house, ride, thing))
            if good:
                told = exchanged(house, ride, thing)
                self.assertEqual(told, exchanged_by_words(ride, thing))
                self.assertTrue(plain_moves(told))
                self.assertEqual(walk(house, told)[1], walk(house, ride)[1])

    def test_all_exchanges(self):
        for house in small_houses()[::211] + larger_houses(40, 4):
            for ride in Tries(house, least_rounds(house)).rides(3)[-1:]:
                if len(ride) < 9:
                    self.check_exchanges(house, ride)

    def check_path(self, house, ride, other):
        told = path(house, ride, other)
        self.assertTrue(plain(told))
        self.assertLess(len(told), max(1, len(ride)))
        now = ride
        for thing in told:
            self.assertIs(exchange_by_words(house, now, thing), True, (house, ride, other))
            then = exchanged_by_words(now, thing)
            self.assertEqual(exchanged(house, now, thing), then)
            self.assertGreater(alike_by_words(then, other), alike_by_words(now, other), (house, ride, other))
            self.assertEqual(alike(then, other), alike_by_words(then, other))
            now = then
        self.assertEqual(now, other)
        self.assertEqual(told == (), ride == other)

    def test_each_ride_to_each_other_one(self):
        pairs = 0
        for house in small_houses()[::29] + larger_houses(60, 5):
            least = least_rounds(house)
            for many in (least, least + 1):
                rides = Tries(house, many).rides(14)
                for ride, other in itertools.product(rides, repeat=2):
                    self.check_path(house, ride, other)
                    pairs += 1
        self.assertGreater(pairs, 5_000)

    def test_long_rides(self):
        chance = random.Random(23)
        for house in parted_houses(25) + [FULL, MIXED, SIXTEEN_LOTS]:
            for many in (least_rounds(house), least_rounds(house) + 2):
                ride = ride_of(house, rounds=many)
                other = some_ride(chance, house, many)
                self.check_path(house, ride, other)
                self.check_path(house, other, ride)

    def test_many_rounds(self):
        house = (16, 3, tuple(((7 * k) % 16, 1 + (11 * k) % 48) for k in range(40)))
        self.check_path(house, ride_of(house, rounds=130), some_ride(random.Random(29), house, 130))
        whole = (None,) * 2080
        self.check_path(EMPTY_16, whole, whole)


class Refused(unittest.TestCase):
    def test_house_first(self):
        for thing, place in bad_houses():
            for call in (is_exchange, exchanged, path):
                for others in ((None, None), ((), ()), (0, HUGE)):
                    self.assertEqual(refusal(BadHouse, call, thing, *others).place, place)

    def test_rides(self):
        for house, ride in good_rides()[::9]:
            for thing in spoilt_rides(house, ride) if len(ride) < 50 else [list(ride), ride[1:]]:
                bad = first_bad(house, thing)
                if bad != "good":
                    for call, other in ((is_exchange, None), (exchanged, (0, 1, 1, 2)), (path, ride), (path, None)):
                        self.assertEqual(refusal(BadRide, call, house, thing, other).number, bad)
                    self.assertEqual(refusal(BadRide, path, house, ride, thing).number, bad)
        for thing in no_numbers():
            if not isinstance(thing, tuple):
                for call, others in ((is_exchange, (thing, None)), (exchanged, (thing, None)), (path, (thing, (0,)))):
                    self.assertIsNone(refusal(BadRide, call, EMPTY_2, *others).number)
                self.assertIsNone(refusal(BadRide, path, EMPTY_2, (), thing).number)
        # Of two bad ones the first is told, and that ahead of unlike rounds.
        self.assertEqual(refusal(BadRide, path, EMPTY_2, (None,), (None, 0)).number, 1)
        self.assertEqual(refusal(BadRide, path, EMPTY_2, (0,), (None,)).number, 0)
        self.assertEqual(refusal(BadRide, path, EMPTY_2, (None, None), (None,) * 3).number, 3)

    def test_exchanges(self):
        for house, ride in (
            (EMPTY_2, ()), (EMPTY_2, (None,) * 2), (TWO_LOTS, ride_of(TWO_LOTS)), (MIXED, ride_of(MIXED)),
            ((4, 1, ((1, 4),)), (0,)), (EMPTY_16, (None,) * 16),
        ):
            for thing in no_exchanges():
                if type(thing) is tuple and len(thing) == 4 and all(type(part) is int for part in thing):
                    self.assertIs(is_exchange(house, ride, thing), exchange_by_words(house, ride, thing))
                else:
                    self.assertIs(is_exchange(house, ride, thing), False, thing)
                    refusal(BadExchange, exchanged, house, ride, thing)
        for thing in ((0, 1, 1, 2), (0, 0, 1, 1), (0, 1, 0, 1), (0, 2, 2, 4), (0, 1, 2, 2)):
            refusal(BadExchange, exchanged, EMPTY_2, (None,) * 2, thing)
        refusal(BadRide, exchanged, EMPTY_2, (0,), None)

    def test_unlike_rounds(self):
        for house in (EMPTY_2, EMPTY_16, TWO_LOTS, MIXED):
            least = least_rounds(house)
            for many, other in ((least, least + 1), (least + 2, least), (least + 1, least + 2)):
                told = refusal(Unlike, path, house, ride_of(house, rounds=many), ride_of(house, rounds=other))
                self.assertEqual(told.rounds, other)


if __name__ == "__main__":
    unittest.main()
