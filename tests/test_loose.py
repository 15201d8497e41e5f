"""Tests of oneseat.loose: points 8 and 9."""

import random
import unittest

from oneseat import loose as module
from oneseat.errors import BadHouse, BadLoose, BadRide, TooFew
from oneseat.loose import downs, fewest_downs, is_loose, loose_ride, loose_rounds, loosened, rounds_loose
from tests.samples import (
    EMPTY_2, EMPTY_16, FULL, HEAVIEST, HUGE, LAIN_OVER, MIXED, SIXTEEN_LOTS, TWO_LOTS, bad_houses, check_interface,
    check_rounds, loads_by_walking, nested, no_moves, no_numbers, plain, refusal, sample_houses, spoilt_rides,
)
from tests.test_lots import lots_by_walking
from tests.trying import (
    fewest_by_trying, first_bad, first_bad_loose, good_rides, larger_houses, loose_walk, parted_houses, small_houses,
    walk,
)

SIGNATURES = {
    "is_loose": "(house, thing)", "loose_rounds": "(house)", "rounds_loose": "(house, loose)",
    "downs": "(house, loose)", "fewest_downs": "(house, *, rounds=None)", "loose_ride": "(house, *, rounds=None)",
    "loosened": "(house, ride)",
}
SAMPLES = sample_houses() + [TWO_LOTS, LAIN_OVER, SIXTEEN_LOTS, HEAVIEST] + parted_houses()


def least_by_words(house):
    """Give the least rounds, loose, as point 9 tells them."""
    most = max(loads_by_walking(house))
    home = [lot for lot in lots_by_walking(house, most) if house[1] in lot][0]
    bare = [step for step, load in enumerate(loads_by_walking(house)) if load < most]
    good = not house[2] or any(begin in home for begin, _ in house[2]) or any(step in home for step in bare)
    return most if good else most + 1


def cut_up(chance, house, ride):
    """Give a loose ride that goes as the ride does, but sets down and takes on again at once."""
    told = []
    for move in ride:
        if move is None:
            told.append(None)
            continue
        steps = house[2][move][1]
        while steps:
            part = chance.randint(1, steps)
            told.append((move, part))
            steps -= part
    return tuple(told)


def good_ones():
    """Give pairs of a house and a loose ride of it."""
    chance = random.Random(3)
    told = [(house, ()) for house in (EMPTY_2, EMPTY_16)] + [(EMPTY_16, (None,) * 9_984)]
    told += [(house, cut_up(chance, house, ride)) for house, ride in good_rides()]
    told += [(house, loose_ride(house)) for house in parted_houses(80, 12)]
    return told


def no_pairs(house, number, part):
    """Give things that are hardly such a pair."""
    told = [[number, part], (number,), (part,), (number, part, part), (number, part, None), ((number, part),)]
    told += [(number, (part,)), ((number,), part), {number: part}, number, f"e{number}.{part}", (str(number), part)]
    told += [(thing, part) for thing in no_moves()] + [(number, thing) for thing in no_numbers() + [-1, 0, HUGE, -HUGE]]
    told += [(None, part), (-1, part), (number - len(house[2]), part), (len(house[2]), part), (number, 49)]
    return told + [(number, more) for more in (part - 1, part + 1)] + [(more, part) for more in range(len(house[2]))]


class Interface(unittest.TestCase):
    def test_names_of_arguments(self):
        check_interface(self, module, SIGNATURES)

    def test_by_names(self):
        self.assertIs(is_loose(thing=(), house=EMPTY_2), True)
        self.assertEqual(rounds_loose(loose=(None, None), house=EMPTY_2), 1)
        self.assertEqual(downs(loose=(), house=EMPTY_2), ())
        self.assertEqual(loosened(ride=(None, None), house=EMPTY_2), (None, None))
        self.assertEqual(loose_ride(rounds=1, house=EMPTY_2), (None, None))
        self.assertEqual(fewest_downs(rounds=1, house=EMPTY_2), 0)


class ByHand(unittest.TestCase):
    def test_set_down_and_taken_on(self):
        loose = ((0, 3), (1, 2), None, None, (0, 1))
        house = (4, 1, ((1, 4), (0, 2)))
        self.assertIs(is_loose(house, loose), True)
        self.assertEqual(rounds_loose(house, loose), 2)
        self.assertEqual(downs(house, loose), ((0, 0),))
        self.assertEqual(loose_rounds(house), 2)
        self.assertEqual(fewest_downs(house), 1)
        self.assertEqual(fewest_downs(house, rounds=2), 1)
        self.assertEqual(fewest_downs(house, rounds=3), 0)

    def test_set_down_and_taken_on_at_once(self):
        house = (3, 2, ((2, 9),))
        self.assertEqual(downs(house, ((0, 9),)), ())
        self.assertEqual(downs(house, ((0, 1), (0, 3), (0, 5))), ((0, 0), (0, 0)))
        self.assertEqual(downs(house, ((0, 1),) * 9), ((0, 0), (0, 1), (0, 2), (0, 0), (0, 1), (0, 2), (0, 0), (0, 1)))
        self.assertEqual(rounds_loose(house, ((0, 8), (0, 1))), 3)
        self.assertEqual(rounds_loose(house, (None, None, None, (0, 4), None, None, None, (0, 5))), 5)

    def test_no_errands(self):
        for house in (EMPTY_2, EMPTY_16):
            self.assertEqual(loose_rounds(house), 0)
            self.assertEqual(loose_ride(house), ())
            self.assertEqual(loose_ride(house, rounds=0), ())
            self.assertEqual(loose_ride(house, rounds=130), (None,) * (130 * house[0]))
            for named in ({}, {"rounds": None}, {"rounds": 0}, {"rounds": 1}, {"rounds": 130}):
                self.assertEqual(fewest_downs(house, **named), 0)

    def test_start_that_is_lain_over_alone(self):
        self.assertEqual(loose_rounds(LAIN_OVER), 2)
        self.assertEqual(fewest_downs(LAIN_OVER), 0)
        self.assertEqual(refusal(TooFew, fewest_downs, LAIN_OVER, rounds=1).least, 2)
        self.assertEqual(refusal(TooFew, loose_ride, LAIN_OVER, rounds=1).least, 2)
        self.assertEqual(refusal(TooFew, loose_ride, LAIN_OVER, rounds=0).least, 1)

    def test_many_lots(self):
        for house, most in ((SIXTEEN_LOTS, 16), (HEAVIEST, 120)):
            self.assertEqual(loose_rounds(house), most)
            self.assertEqual(fewest_downs(house), 15)
            self.assertEqual(fewest_downs(house, rounds=most + 1), 0)
            told = loose_ride(house, rounds=most)
            many, set_down = loose_walk(house, told)
            self.assertEqual((many, len(set_down)), (most, 15))


class ByTrying(unittest.TestCase):
    def test_small_houses(self):
        houses = [house for house in small_houses() if sum(steps for _, steps in house[2]) <= 10]
        houses += [house for house in larger_houses(80, 3) + parted_houses(200, 4) if house[0] < 7]
        several = 0
        for house in houses:
            most = max(loads_by_walking(house))
            fewest = fewest_by_trying(house, most)
            if fewest is None:
                self.assertEqual(loose_rounds(house), most + 1)
                self.assertEqual(refusal(TooFew, fewest_downs, house, rounds=most).least, most + 1)
                self.assertEqual(refusal(TooFew, loose_ride, house, rounds=most).least, most + 1)
            else:
                several += fewest > 0
                self.assertEqual(loose_rounds(house), most)
                self.assertEqual(fewest_downs(house), fewest)
                self.assertEqual(fewest_downs(house, rounds=most), fewest)
            self.assertEqual(fewest_by_trying(house, most + 1), 0)
            if most:
                self.assertIsNone(fewest_by_trying(house, most - 1))
        self.assertGreater(several, 20)


class Told(unittest.TestCase):
    def test_least_rounds_and_fewest_by_words(self):
        for house in SAMPLES + small_houses() + larger_houses():
            most = max(loads_by_walking(house))
            least = least_by_words(house)
            self.assertEqual(loose_rounds(house), least)
            fewest = len(lots_by_walking(house, most)) - 1
            self.assertEqual(fewest_downs(house), fewest if least == most else 0)
            self.assertEqual(fewest_downs(house, rounds=None), fewest_downs(house))
            for many in (most + 1, most + 2, 130):
                self.assertEqual(fewest_downs(house, rounds=many), 0)

    def test_each_loose_ride_is_walked(self):
        for house in SAMPLES + small_houses()[::3] + larger_houses():
            most = max(loads_by_walking(house))
            least = least_by_words(house)
            for named, many in (({}, least), ({"rounds": None}, least), ({"rounds": least}, least),
                                ({"rounds": most + 1}, most + 1), ({"rounds": 130}, 130)):
                told = loose_ride(house, **named)
                rounds, set_down = loose_walk(house, told)
                self.assertEqual(rounds, many)
                self.assertEqual(len(set_down), fewest_downs(house, rounds=many))
                self.assertIs(is_loose(house, told), True)
                self.assertEqual(rounds_loose(house, told), many)
                self.assertEqual(downs(house, told), set_down)
                self.assertTrue(plain(tuple(move for move in told if move is not None)))

    def test_good_ones(self):
        for house, loose in good_ones():
            many, set_down = loose_walk(house, loose)
            self.assertIs(is_loose(house, loose), True)
            self.assertEqual(rounds_loose(house, loose), many)
            self.assertEqual(downs(house, loose), set_down)
            self.assertTrue(plain(downs(house, loose)))

    def test_loosened(self):
        for house, ride in good_rides():
            told = loosened(house, ride)
            self.assertEqual(told, tuple(move if move is None else (move, house[2][move][1]) for move in ride))
            self.assertEqual(loose_walk(house, told), (walk(house, ride)[1], ()))
            self.assertTrue(plain(tuple(move for move in told if move is not None)))


class Refused(unittest.TestCase):
    def refused(self, house, thing):
        number = first_bad_loose(house, thing)
        before = repr(thing)
        self.assertIs(is_loose(house, thing), number == "good")
        self.assertEqual(repr(thing), before)
        if number != "good":
            for call in (rounds_loose, downs):
                error = refusal(BadLoose, call, house, thing)
                self.assertEqual((error.number, type(error.number)), (number, type(number)), thing)
        return number

    def test_by_hand(self):
        house = (4, 1, ((1, 4), (0, 2)))
        for thing, number in (
            ((), 0), (((0, 4),), 1), (((0, 5),), 0), (((0, 0),), 0), (((0, 3), (0, 2)), 1), (((0, 4), (0, 1)), 1),
            (((1, 2),), 0), (((0, 3), (1, 2), (0, 1)), 2), (((0, 3), (0, 1), (1, 2)), 2), (((True, 4),), 0),
            (((0, True),), 0), (((False, 4),), 0), ((0,), 0), (([0, 4],), 0), (((0, 3), (1, 2), None, None), 4),
            (((0, 3), (1, 2), None, None, (0, 1), None), 6), ((0, 4), 0), ([(0, 4)], None), (None, None),
            (((0, 4), None, None, None, (1, 2)), 5), (((0, 4, 0),), 0), (((0,),), 0), (((2, 1),), 0), (((-1, 1),), 0),
        ):
            self.assertEqual(self.refused(house, thing), number)

    def test_spoilt_ones(self):
        seen = set()
        pairs = [(house, loose) for house, loose in good_ones() if len(loose) < 500]
        for house, loose in pairs[::3]:
            many = len(loose)
            things = [list(loose), repr(loose), (loose,), loose + loose, loose[::-1], loose + (None,) * house[0]]
            for at in sorted({0, many // 3, many // 2, many - 1} & set(range(many))):
                if loose[at] is not None:
                    for thing in no_pairs(house, *loose[at]):
                        things.append(loose[:at] + (thing,) + loose[at + 1:])
                    things.append(loose[:at] + loose[at:at + 1] + loose[at:])
                things.append(loose[:at] + (None,) + loose[at:])
                things.append(loose[:at] + (None,) + loose[at + 1:])
                things.append(loose[:at] + loose[at + 1:])
                things.append(loose[:at])
            for thing in things:
                seen.add(type(self.refused(house, thing)))
        self.assertEqual(seen, {str, int, type(None)})

    def test_anything(self):
        for house in (EMPTY_2, EMPTY_16, MIXED, FULL):
            for thing in no_numbers() + [0, 1, HUGE, nested(30)]:
                self.refused(house, thing)
                self.refused(house, (thing,))
                self.refused(house, (None,) * house[0] + (thing,) + (None,))
                self.refused(house, ((thing, thing),))

    def test_plain_rides_are_loose_only_without_errands(self):
        for house, ride in good_rides()[::5]:
            if house[2]:
                self.assertEqual(self.refused(house, ride), [move is not None for move in ride].index(True))

    def test_loosened_refuses_what_is_no_ride(self):
        for house, ride in [pair for pair in good_rides() if len(pair[1]) < 200][::8]:
            for thing in spoilt_rides(house, ride):
                number = first_bad(house, thing)
                if number != "good":
                    self.assertEqual(refusal(BadRide, loosened, house, thing).number, number)
        for thing in [[], None, "", {}, 0, True]:
            self.assertIsNone(refusal(BadRide, loosened, EMPTY_2, thing).number)

    def test_house_and_rounds_ahead_of_all_else(self):
        check_rounds(self, fewest_downs)
        check_rounds(self, loose_ride)

    def test_bad_houses(self):
        for thing, place in bad_houses():
            self.assertEqual(refusal(BadHouse, loose_rounds, thing).place, place)
            for call in (is_loose, rounds_loose, downs, loosened):
                for other in ((), None, [0], ((True, 1),)):
                    self.assertEqual(refusal(BadHouse, call, thing, other).place, place)


if __name__ == "__main__":
    unittest.main()
