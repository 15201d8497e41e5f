"""Tests of oneseat.seats: points 6 and 17."""

import heapq
import itertools
import random
import unittest

from oneseat import seats as module
from oneseat.errors import BadHouse, BadNumber, BadRide
from oneseat.houses import greatest, started
from oneseat.least import least_rounds, ride_of
from oneseat.loose import fewest_downs, loose_rounds
from oneseat.lots import bears
from oneseat.seats import idle_ones, rounds_together, seats_downs, seats_rides, seats_rounds
from tests.samples import (
    EMPTY_2, EMPTY_16, FULL, HEAVIEST, HUGE, LAIN_OVER, MIXED, SIXTEEN_LOTS, TWO_LOTS, bad_houses, check_interface,
    loads_by_walking, no_moves, no_numbers, plain, plain_moves, refusal, sample_houses,
)
from tests.trying import larger_houses, parted_houses, small_houses

STARTS_ALONE = "(house, starts)"
SIGNATURES = {
    "seats_rounds": STARTS_ALONE, "rounds_together": "(house, starts, rides)", "seats_rides": STARTS_ALONE,
    "seats_downs": STARTS_ALONE, "idle_ones": STARTS_ALONE,
}
ALL = (seats_rounds, seats_rides, seats_downs, idle_ones)
SAMPLES = sample_houses() + [TWO_LOTS, LAIN_OVER, SIXTEEN_LOTS, HEAVIEST] + parted_houses()


def all_starts(floors, most=6):
    """Give all starts of up to so many seats."""
    counts = range(1, min(most, floors) + 1)
    return [starts for many in counts for starts in itertools.combinations(range(floors), many)]


def some_starts(chance, floors):
    return tuple(sorted(chance.sample(range(floors), chance.randint(1, min(6, floors)))))


def rounds_by_trying(house, starts):
    """Give the fewest rounds together: the seats ride one behind the other, by the fewest steps in all."""
    floors, _, errands = house
    whole = (1 << len(errands)) - 1
    queue = [(0, 0, starts[0], 0)]
    seen = set()
    while True:
        gone, seat, floor, taken = heapq.heappop(queue)
        if (seat, floor, taken) in seen:
            continue
        seen.add((seat, floor, taken))
        if floor == starts[seat]:
            if seat == len(starts) - 1 and taken == whole:
                assert gone % floors == 0
                return gone // floors
            if seat < len(starts) - 1:
                heapq.heappush(queue, (gone, seat + 1, starts[seat + 1], taken))
        heapq.heappush(queue, (gone + 1, seat, (floor + 1) % floors, taken))
        for number, (begin, steps) in enumerate(errands):
            if begin == floor and not taken >> number & 1:
                heapq.heappush(queue, (gone + steps, seat, (floor + steps) % floors, taken | 1 << number))


def downs_by_trying(house, starts):
    """Give the fewest settings down by GREATEST rounds, by trying all loose rides of all seats; None where none is."""
    floors, _, errands = house
    total = max(loads_by_walking(house)) * floors
    whole = tuple(steps for _, steps in errands)
    known = {}

    def fewest(seat, gone, due):
        """Give the fewest from here on: the seat has gone so many steps, all seats ahead of it whole rounds."""
        state = (seat, gone, due)
        if state not in known:
            known[state] = min([number for number in tried(seat, gone, due) if number is not None], default=None)
        return known[state]

    def tried(seat, gone, due):
        begun = [number for number in range(len(errands)) if 0 < due[number] < whole[number]]
        if gone % floors == 0 and not begun:
            if seat < len(starts) - 1:
                yield fewest(seat + 1, gone, due)
            elif gone == total:
                yield 0 if not any(due) else None
        if gone == total:
            return
        floor = (starts[seat] + gone) % floors
        yield fewest(seat, gone + 1, due)
        for number, (begin, steps) in enumerate(errands):
            if (begin + steps - due[number]) % floors == floor:
                for part in range(1, min(due[number], total - gone) + 1):
                    less = due[:number] + (due[number] - part,) + due[number + 1:]
                    further = fewest(seat, gone + part, less)
                    yield further if further is None or not less[number] else further + 1

    return fewest(0, 0, whole)


def go_all(house, starts, rides):
    """Go the rides of all seats; give their rounds together."""
    floors, _, errands = house
    assert type(rides) is tuple and len(rides) == len(starts)
    taken, gone = [], 0
    for start, ride in zip(starts, rides):
        assert plain_moves(ride)
        floor = start
        for move in ride:
            if move is None:
                steps = 1
            else:
                assert move not in taken and errands[move][0] == floor, (house, starts, rides)
                taken.append(move)
                steps = errands[move][1]
            floor, gone = (floor + steps) % floors, gone + steps
        assert floor == start, (house, starts, rides)
    assert sorted(taken) == list(range(len(errands)))
    return gone // floors


def first_bad_of_all(house, starts, thing):
    """Give "good" of rides of all seats, else what their refusal must tell."""
    if type(thing) is not tuple or len(thing) != len(starts) or any(type(ride) is not tuple for ride in thing):
        return None
    floors, _, errands = house
    waits = list(range(len(errands)))
    count = 0
    for start, ride in zip(starts, thing):
        floor = start
        for move in ride:
            if move is None:
                floor = (floor + 1) % floors
            elif type(move) is int and move in waits and errands[move][0] == floor:
                waits.remove(move)
                floor = (floor + errands[move][1]) % floors
            else:
                return count
            count += 1
        if floor != start:
            return count
    return count if waits else "good"


def no_starts(floors):
    """Give things of every kind that are no starts of a ring of so many floors, made anew."""
    told = [thing for thing in no_numbers() if thing not in ((0,), (0, 1))]
    told += [0, 1, HUGE, [0], [0, 1], (0, 0), (1, 0), (0, 1, 1), (0, 1, 0), (floors,), (0, floors), (-1,), (-1, 0)]
    told += [tuple(range(7)), tuple(range(6, -1, -1)), (0,) * 7, tuple(range(16)), tuple(range(9_000)), ((0,),)]
    told += [(thing,) for thing in no_numbers()] + [(0, thing) for thing in no_numbers()]
    return told + [(0, HUGE), (-HUGE, 0), {0, 1}, {0: 1}, "01"]


class Interface(unittest.TestCase):
    def test_names_of_arguments(self):
        check_interface(self, module, SIGNATURES)

    def test_by_names(self):
        told = [call(starts=(0, 1), house=EMPTY_2) for call in ALL]
        self.assertEqual(told, [0, ((), ()), 0, (0, 1)])
        self.assertEqual(rounds_together(rides=((), (None, None)), starts=(0, 1), house=EMPTY_2), 1)


class ByHand(unittest.TestCase):
    def test_no_errands(self):
        for house in (EMPTY_2, EMPTY_16):
            for starts in ((0,), (1,), (0, 1)):
                told = [call(house, starts) for call in ALL]
                self.assertEqual(told, [0, ((),) * len(starts), 0, starts])
        self.assertEqual(seats_rides(EMPTY_16, (0, 3, 5, 7, 9, 15)), ((),) * 6)

    def test_two_lots(self):
        # By GREATEST floors 0, 2 and 3 are one lot, floor 1 the other one.
        self.assertEqual(seats_rounds(TWO_LOTS, (0, 1)), 2)
        self.assertEqual(seats_rounds(TWO_LOTS, (1, 2)), 2)
        self.assertEqual([seats_rounds(TWO_LOTS, starts) for starts in ((0,), (1,), (0, 2, 3))], [3, 3, 3])
        self.assertEqual([seats_downs(TWO_LOTS, starts) for starts in ((0,), (1,), (0, 1), (2, 3))], [1, 1, 0, 1])
        self.assertEqual(seats_rides(TWO_LOTS, (0, 1)), ((1, None, None), (0,)))
        self.assertEqual([idle_ones(TWO_LOTS, starts) for starts in ((0,), (1,), (0, 1, 2, 3))], [(), (), ()])

    def test_a_start_that_is_lain_over(self):
        self.assertEqual(idle_ones(LAIN_OVER, (0, 1, 2)), (0, 2))
        self.assertEqual(seats_rounds(LAIN_OVER, (0, 2)), 2)
        self.assertIsNone(seats_downs(LAIN_OVER, (0, 2)))
        self.assertEqual(seats_rounds(LAIN_OVER, (0, 1, 2)), 1)
        self.assertEqual(seats_downs(LAIN_OVER, (0, 1, 2)), 0)
        self.assertEqual(seats_rides(LAIN_OVER, (0, 1, 2)), ((), (0,), ()))

    def test_sixteen_lots(self):
        for starts in ((0,), (0, 5), (1, 2, 3, 4, 5, 15)):
            self.assertEqual(seats_rounds(SIXTEEN_LOTS, starts), 17)
            self.assertEqual(seats_downs(SIXTEEN_LOTS, starts), 16 - len(starts))
            self.assertEqual(idle_ones(SIXTEEN_LOTS, starts), ())

    def test_lots_with_no_start(self):
        # Errands go round at floors 1 and 3 alone: floors 0, 2 and 4 are lain over.
        house = (5, 0, ((1, 5), (3, 10)))
        self.assertEqual(seats_downs(house, (1,)), 1)
        self.assertEqual(seats_downs(house, (0, 1)), 1)
        self.assertEqual(seats_downs(house, (1, 3)), 0)
        self.assertIsNone(seats_downs(house, (0, 2, 4)))
        self.assertEqual(idle_ones(house, (0, 1, 2, 3, 4)), (0, 2, 4))
        self.assertEqual([seats_rounds(house, starts) for starts in ((1,), (0,), (1, 3), (0, 1, 2, 3))], [4, 4, 3, 3])

    def test_the_start_of_the_house_does_not_count(self):
        for house in (TWO_LOTS, LAIN_OVER, MIXED, (5, 0, ((1, 5), (3, 10)))):
            for starts in all_starts(house[0]):
                for floor in range(house[0]):
                    other = started(house, floor)
                    self.assertEqual([call(other, starts) for call in ALL], [call(house, starts) for call in ALL])


class ByTrying(unittest.TestCase):
    def check_rides(self, house, starts):
        rides = seats_rides(house, starts)
        many = seats_rounds(house, starts)
        self.assertEqual(go_all(house, starts, rides), many, (house, starts))
        told = rounds_together(house, starts, rides)
        self.assertEqual((type(told), told), (int, many))

    def test_rounds(self):
        for house in small_houses()[::9] + larger_houses(40, 4):
            for starts in all_starts(house[0], 3)[:12]:
                self.assertEqual(seats_rounds(house, starts), rounds_by_trying(house, starts), (house, starts))
                self.check_rides(house, starts)

    def test_more_seats(self):
        chance = random.Random(37)
        for house in parted_houses(60, 5) + larger_houses(30, 4):
            starts = some_starts(chance, house[0])
            self.assertEqual(seats_rounds(house, starts), rounds_by_trying(house, starts), (house, starts))
            self.check_rides(house, starts)

    def test_settings_down(self):
        chance = random.Random(41)
        for house in small_houses()[::23]:
            for starts in all_starts(house[0]):
                self.assertEqual(seats_downs(house, starts), downs_by_trying(house, starts), (house, starts))
        few = [house for house in parted_houses(200, 3) if 2 < house[0] < 7 and sum(map(sum, house[2])) < 30]
        for house in few:
            starts = some_starts(chance, house[0])
            self.assertEqual(seats_downs(house, starts), downs_by_trying(house, starts), (house, starts))

    def test_large_houses(self):
        chance = random.Random(43)
        for house in SAMPLES:
            for _ in range(3):
                starts = some_starts(chance, house[0])
                self.check_rides(house, starts)
                idle = tuple(floor for floor in starts if not bears(started(house, floor)))
                self.assertEqual(idle_ones(house, starts), idle, (house, starts))

    def test_one_seat_is_as_one_alone(self):
        for house in SAMPLES:
            starts = (house[1],)
            self.assertEqual(seats_rounds(house, starts), least_rounds(house))
            good = loose_rounds(house) == greatest(house)
            self.assertEqual(seats_downs(house, starts), fewest_downs(house) if good else None)
            self.assertEqual(rounds_together(house, starts, (ride_of(house),)), least_rounds(house))

    def test_what_is_told_is_plain(self):
        for house in SAMPLES[::9]:
            for starts in ((0,), (0, 1)):
                self.assertTrue(plain((seats_rounds(house, starts), idle_ones(house, starts))))
                self.assertIn(type(seats_downs(house, starts)), (int, type(None)))


class Rides(unittest.TestCase):
    def test_refused_by_hand(self):
        house = (4, 1, ((1, 4), (0, 2)))
        for starts, rides, number in (
            ((0, 1), ((1, None, None), ()), 3), ((0, 1), ((1, None), (0,)), 2), ((0, 1), ((1, None, None), (0, 0)), 4),
            ((0, 1), ((1, None, None), (1,)), 3), ((0, 1), ((), (0, None)), 2), ((0, 1), ((), ()), 0),
            ((0, 1), ((0,), (0,)), 0), ((0, 1), ((None,), (0,)), 1), ((0, 1), ((None,) * 5, (7,)), 5),
            ((0, 1), ((None,) * 4, (7,)), 4), ((1,), ((0, None, None, None, 1, None, None),), 7),
            ((0, 1), ((1, None, None), (0, None)), 5), ((0, 1), ((1, None, None), (None, True)), 4),
        ):
            self.assertEqual(refusal(BadRide, rounds_together, house, starts, rides).number, number)
        self.assertEqual(rounds_together(house, (0, 1), ((1, None, None), (0,))), 2)
        self.assertEqual(rounds_together(house, (0, 1), ((None,) * 4, (0, None, None, None, 1, None, None, None))), 4)

    def test_no_rides(self):
        for house, starts in ((EMPTY_2, (0,)), (EMPTY_2, (0, 1)), (TWO_LOTS, (0, 1)), (EMPTY_16, (0, 1, 2, 3, 4, 5))):
            good = seats_rides(house, starts)
            things = no_numbers() + [0, -1, HUGE]
            things += [list(good), good + ((),), good[1:], dict(enumerate(good)), ((),) * 7, good[0]]
            things += [good[:at] + (thing,) + good[at + 1:] for at in range(len(good)) for thing in
                       [thing for thing in no_numbers() if not isinstance(thing, tuple)] + [0, list(good[at])]]
            for thing in things:
                self.assertIsNone(refusal(BadRide, rounds_together, house, starts, thing).number)

    def test_spoilt_ones(self):
        chance = random.Random(47)
        for house in small_houses()[::151] + parted_houses(15, 6) + [TWO_LOTS, MIXED]:
            starts = some_starts(chance, house[0])
            rides = seats_rides(house, starts)
            for at, ride in enumerate(rides):
                for place in {0, len(ride) // 2, max(0, len(ride) - 1), len(ride)}:
                    for thing in no_moves() + [None] + list(range(len(house[2]) + 1)):
                        for behind in (place, place + 1):
                            spoilt = ride[:place] + (thing,) + ride[behind:]
                            self.check(house, starts, rides[:at] + (spoilt,) + rides[at + 1:])
                    self.check(house, starts, rides[:at] + (ride[:place],) + rides[at + 1:])
            self.check(house, starts, rides[::-1])
            self.check(house, starts, rides + ((),))
            self.check(house, starts, rides[1:])

    def check(self, house, starts, rides):
        bad = first_bad_of_all(house, starts, rides)
        if bad == "good":
            self.assertEqual(rounds_together(house, starts, rides), go_all(house, starts, rides))
        else:
            self.assertEqual(refusal(BadRide, rounds_together, house, starts, rides).number, bad)


class Refused(unittest.TestCase):
    def test_house_first(self):
        for thing, place in bad_houses():
            for starts in (None, (), (0,), (1, 0)):
                for call in ALL:
                    self.assertEqual(refusal(BadHouse, call, thing, starts).place, place)
                self.assertEqual(refusal(BadHouse, rounds_together, thing, starts, None).place, place)

    def test_starts(self):
        for house in (EMPTY_2, EMPTY_16, TWO_LOTS, FULL):
            for thing in no_starts(house[0]):
                for call in ALL:
                    self.assertIs(refusal(BadNumber, call, house, thing).about, thing)
                for rides in (None, ((),), ((), ()), ()):
                    self.assertIs(refusal(BadNumber, rounds_together, house, thing, rides).about, thing)
        for house in (EMPTY_16, FULL):
            seats_rounds(house, (10, 11, 12, 13, 14, 15))
            seats_rounds(house, tuple(range(6)))


if __name__ == "__main__":
    unittest.main()
