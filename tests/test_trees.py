"""Tests of oneseat.trees: point 12."""

import itertools
import math
import random
import unittest
from fractions import Fraction

from oneseat import trees as module
from oneseat.errors import BadHouse, BadRide, BadRows
from oneseat.least import least_rounds, ride_of
from oneseat.trees import determinant, how_many_rides, rides_on, trees
from tests.samples import (
    EMPTY_2, EMPTY_16, FULL, HEAVIEST, HUGE, LAIN_OVER, MIXED, SIXTEEN_LOTS, TWO_LOTS, bad_houses, check_interface,
    check_rounds, loads_by_walking, nested, no_moves, no_numbers, refusal, sample_houses, spoilt_rides,
)
from tests.trying import (
    Begun, Tries, beginnings, begun_by, first_bad_begun, larger_houses, parted_houses, small_houses,
)

SIGNATURES = {
    "determinant": "(rows)", "trees": "(house, *, rounds=None)", "how_many_rides": "(house, *, rounds=None)",
    "rides_on": "(house, begun, *, rounds=None)",
}


def by_places(rows):
    """Give the determinant as the sum over all orders of columns."""
    told = 0
    for order in itertools.permutations(range(len(rows))):
        part = 1
        for at, column in enumerate(order):
            part *= rows[at][column]
        turned = sum(order[a] > order[b] for a, b in itertools.combinations(range(len(order)), 2))
        told += -part if turned % 2 else part
    return told


def by_fractions(rows):
    """Give the determinant by taking rows from each other, with exact fractions."""
    left = [[Fraction(number) for number in row] for row in rows]
    told = Fraction(1)
    while left:
        at = next((at for at, row in enumerate(left) if row[0]), None)
        if at is None:
            return 0
        if at:
            told = -told
            left[0], left[at] = left[at], left[0]
        first = left[0]
        told *= first[0]
        left = [[a - row[0] / first[0] * b for a, b in zip(row[1:], first[1:])] for row in left[1:]]
    assert told.denominator == 1
    return told.numerator


def square(chance, many, numbers):
    return tuple(tuple(chance.choice(numbers) for _ in range(many)) for _ in range(many))


def trees_by_trying(house, left):
    """Give how many trees there are of what is left, by trying one move from each floor."""
    arrows = left.arrows()
    inner = sorted({begin for begin, _ in arrows if begin != house[1]})
    choices = [[end for begin, end in arrows if begin == floor != end] for floor in inner]
    told = 0
    for chosen in itertools.product(*choices):
        leads = dict(zip(inner, chosen))
        told += all(comes_home(house[1], floor, leads) for floor in inner)
    return told


def comes_home(start, floor, leads):
    for _ in leads:
        floor = leads.get(floor, floor)
    return floor == start


class Interface(unittest.TestCase):
    def test_names_of_arguments(self):
        check_interface(self, module, SIGNATURES)

    def test_by_names(self):
        self.assertEqual(determinant(rows=((5,),)), 5)
        self.assertEqual(trees(rounds=1, house=EMPTY_2), 1)
        self.assertEqual(rides_on(rounds=1, begun=(), house=EMPTY_2), 1)


class Determinants(unittest.TestCase):
    def told(self, rows, number):
        answer = determinant(rows)
        self.assertIs(type(answer), int)
        self.assertTrue(answer == number, "wrong determinant")

    def test_by_hand(self):
        self.told((), 1)
        for number in (0, 1, -1, 7, HUGE, -HUGE):
            self.told(((number,),), number)
        self.told(((0, 1), (1, 0)), -1)
        self.told(((2, 3), (5, 7)), -1)
        self.told(((0, 0), (1, 1)), 0)
        self.told(((0, 2, 1), (0, 3, 4), (5, 6, 7)), 25)
        self.told(((0, 0, 1), (0, 1, 0), (1, 0, 0)), -1)
        self.told(((1, 2, 3), (4, 5, 6), (7, 8, 9)), 0)
        self.told(((1, 2, 3), (2, 4, 7), (3, 7, 11)), -1)

    def test_all_small_squares(self):
        for numbers, many in (((-2, -1, 0, 1, 3), 2), ((-1, 0, 1), 3)):
            for row in itertools.product(numbers, repeat=many * many):
                rows = tuple(row[at:at + many] for at in range(0, many * many, many))
                self.told(rows, by_places(rows))

    def test_squares_of_four_to_six(self):
        chance = random.Random(1)
        for many in (4, 5, 6):
            for numbers in ((0, 1), (0, 0, 0, 1, -1), tuple(range(-9, 10)), (0, HUGE, -HUGE, 1)):
                for _ in range(25):
                    rows = square(chance, many, numbers)
                    self.told(rows, by_places(rows))

    def test_up_to_20_rows(self):
        chance = random.Random(2)
        for many in (7, 12, 19, 20):
            for numbers in ((0, 0, 0, 1, -1), tuple(range(-99, 100)), (0, 0, 10 ** 40, 1 - 10 ** 41)):
                rows = square(chance, many, numbers)
                self.told(rows, by_fractions(rows))

    def test_rows_in_another_order(self):
        chance = random.Random(4)
        for many in (2, 3, 9, 20):
            order = list(range(many))
            for _ in range(10):
                chance.shuffle(order)
                turned = sum(order[a] > order[b] for a, b in itertools.combinations(range(many), 2))
                rows = tuple(tuple(3 if column == place else 0 for column in range(many)) for place in order)
                self.told(rows, 3 ** many * (-1) ** turned)

    def test_numbers_of_very_many_figures(self):
        for many in (1, 2, 5, 11):
            for number in (HUGE, -HUGE, HUGE - 1):
                rows = tuple(tuple(number if at >= row else 0 for at in range(many)) for row in range(many))
                self.told(rows, number ** many)
                self.told(rows[::-1], number ** many * (-1) ** (many * (many - 1) // 2))
        points = [HUGE - 3 * at * at for at in range(6)]
        rows = tuple(tuple(point ** power for power in range(2)) for point in points[:2])
        self.told(rows, points[1] - points[0])
        last = (HUGE,) * 20
        rows = tuple(tuple(HUGE + (at == row) for at in range(20)) for row in range(19)) + (last,)
        self.told(rows, HUGE)

    def test_powers(self):
        points = list(range(-9, 11))
        rows = tuple(tuple(point ** power for power in range(20)) for point in points)
        number = math.prod(b - a for a, b in itertools.combinations(points, 2))
        self.told(rows, number)

    def test_alike_rows_and_rows_of_noughts(self):
        chance = random.Random(6)
        for many in (2, 8, 20):
            rows = square(chance, many, range(-5, 6))
            self.told(rows[:-1] + (rows[0],), 0)
            self.told((rows[-1],) + rows[1:], 0)
            for at in (0, many // 2, many - 1):
                self.told(rows[:at] + ((0,) * many,) + rows[at + 1:], 0)
                self.told(tuple(row[:at] + (0,) + row[at + 1:] for row in rows), 0)
            self.told(((0,) * many,) * many, 0)

    def test_what_was_handed_in_stays(self):
        rows = ((0, 2, 1), (0, 3, 4), (5, 6, 7))
        before = repr(rows)
        determinant(rows)
        self.assertEqual(repr(rows), before)

    def test_refused(self):
        things = no_numbers() + [0, 1, HUGE]
        for thing in things:
            if thing != ():
                refusal(BadRows, determinant, thing)
            if thing != (0,):
                refusal(BadRows, determinant, (thing,))
            if thing != (0, 1):
                refusal(BadRows, determinant, ((1, 2), thing))
            refusal(BadRows, determinant, (thing, (1, 2), (1, 2)))
        for thing in things + [(1,), [1]]:
            if not isinstance(thing, int) or isinstance(thing, bool):
                refusal(BadRows, determinant, ((thing,),))
                refusal(BadRows, determinant, ((1, 2), (3, thing)))
                refusal(BadRows, determinant, ((0, 0), (thing, 0)))
                refusal(BadRows, determinant, ((1,) * 20,) * 19 + ((1,) * 19 + (thing,),))
        for rows in (
            ((1, 2),), ((1,), (2,)), ((1, 2), (3,)), ((1, 2), (3, 4, 5)), ((1, 2), (3, 4), (5, 6)), [(1,)], ([1],),
            ((1, 2), [3, 4]), {0: (1,)}, (((1,),),), ((1,) * 21,) * 21, ((1,) * 20,) * 21, ((1,) * 21,) * 20,
            ((),), ((), ()), nested(30), ((1,) * 90,) * 90, ((0,) * 3,) * 2, (None,) * 5000, "1", ("1",), (b"1",),
        ):
            refusal(BadRows, determinant, rows)


class Counts(unittest.TestCase):
    def test_by_hand(self):
        for house in (EMPTY_2, EMPTY_16):
            self.assertEqual((trees(house), how_many_rides(house), rides_on(house, ())), (1, 1, 1))
            for many in (0, 1, 2, 130):
                self.assertEqual(how_many_rides(house, rounds=many), 1)
                # Without moves there's one.
                self.assertEqual(trees(house, rounds=many), many ** (house[0] - 1) if many else 1)
        self.assertEqual(how_many_rides((2, 0, ((0, 2),) * 5)), math.factorial(5))
        self.assertEqual(how_many_rides((2, 0, ((0, 6),) * 40)), math.factorial(40))
        self.assertEqual(trees((2, 0, ((0, 6),) * 40)), 1)
        self.assertEqual(how_many_rides((4, 1, ((1, 4),))), 1)
        self.assertEqual(how_many_rides((4, 1, ((1, 4),)), rounds=2), 2)
        for house, most in ((TWO_LOTS, 2), (LAIN_OVER, 1), (SIXTEEN_LOTS, 16), (HEAVIEST, 120)):
            self.assertEqual(trees(house, rounds=most), 0)
            self.assertEqual(how_many_rides(house, rounds=most), 0)
            self.assertEqual(rides_on(house, (), rounds=most), 0)
            self.assertGreater(how_many_rides(house), 0)
        self.assertEqual(how_many_rides(SIXTEEN_LOTS), 2)

    def test_all_rides_of_small_houses(self):
        for house in small_houses():
            most = max(loads_by_walking(house))
            for many in (most, most + 1):
                self.assertEqual(how_many_rides(house, rounds=many), Tries(house, many).how_many(), (house, many))
            self.assertEqual(how_many_rides(house), how_many_rides(house, rounds=least_rounds(house)))
            self.assertEqual(how_many_rides(house, rounds=None), how_many_rides(house))

    def test_all_rides_of_larger_houses(self):
        for house in larger_houses(80, 7) + parted_houses(60, 8):
            most = max(loads_by_walking(house))
            for many in (most, most + 1, most + 5):
                self.assertEqual(how_many_rides(house, rounds=many), Tries(house, many).how_many(), (house, many))
        for house in small_houses()[::97]:
            self.assertEqual(how_many_rides(house, rounds=130), Tries(house, 130).how_many(), house)

    def test_rides_are_as_many_as_are_told_one_by_one(self):
        told = 0
        for house in small_houses() + larger_houses(60, 5):
            many = how_many_rides(house)
            if many < 60:
                told += 1
                rides = Tries(house, least_rounds(house)).rides()
                self.assertEqual(len(set(rides)), many)
        self.assertGreater(told, 500)

    def test_trees_by_trying(self):
        small = [house for house in small_houses()[::3] if max(loads_by_walking(house)) < 12]
        for house in small + [made for made in larger_houses(200, 5) + parted_houses(100, 8) if made[0] < 7]:
            most = max(loads_by_walking(house))
            for named, many in (({}, least_rounds(house)), ({"rounds": most}, most), ({"rounds": most + 1}, most + 1)):
                self.assertEqual(trees(house, **named), trees_by_trying(house, Begun(house, many)), (house, many))

    def test_the_greatest_sizes(self):
        for house in sample_houses() + [SIXTEEN_LOTS, HEAVIEST] + parted_houses(40):
            for named in ({}, {"rounds": 130}):
                number = how_many_rides(house, **named)
                self.assertIs(type(number), int)
                self.assertGreater(number, 0)
                self.assertGreater(trees(house, **named), 0)
                self.assertTrue(rides_on(house, (), **named) == number)


class On(unittest.TestCase):
    def test_all_beginnings_of_small_houses(self):
        for house in small_houses()[::11] + larger_houses(40, 4) + parted_houses(60, 5):
            most = max(loads_by_walking(house))
            for many in (most, most + 1):
                tries = Tries(house, many)
                for begun in beginnings(house, many, 120):
                    gone = sum(1 if move is None else house[2][move][1] for move in begun)
                    taken = sum(1 << move for move in begun if move is not None)
                    self.assertEqual(rides_on(house, begun, rounds=many), tries.ways[gone][taken], (house, begun))

    def test_beginnings_share_all_rides(self):
        for house in [FULL, MIXED, HEAVIEST] + larger_houses(30):
            for many in (least_rounds(house), least_rounds(house) + 1):
                begun = ()
                ride = ride_of(house, rounds=many)
                for move in ride[:40]:
                    number = rides_on(house, begun, rounds=many)
                    here = begun_by(house, begun, many).there()
                    parts = [rides_on(house, begun + (one,), rounds=many) for one in here]
                    self.assertTrue(number == sum(parts) and number > 0)
                    begun += (move,)
                self.assertEqual(rides_on(house, ride, rounds=many), 1)

    def test_long_beginnings(self):
        for house in (EMPTY_16, FULL, HEAVIEST, SIXTEEN_LOTS):
            ride = ride_of(house, rounds=130)
            for many in (0, 1, len(ride) // 2, len(ride) - 20, len(ride) - 1, len(ride)):
                self.assertGreater(rides_on(house, ride[:many], rounds=130), 0)
            self.assertEqual(rides_on(house, ride, rounds=130), 1)

    def test_rounds_left_out_are_the_least(self):
        for house in (TWO_LOTS, LAIN_OVER, MIXED, FULL):
            for named in ({}, {"rounds": None}):
                self.assertTrue(rides_on(house, (), **named) == how_many_rides(house, rounds=least_rounds(house)))

    def test_no_beginnings_are_refused(self):
        for house in (EMPTY_2, EMPTY_16, MIXED, TWO_LOTS, LAIN_OVER):
            least = least_rounds(house)
            ride = ride_of(house)
            for thing in spoilt_rides(house, ride) + no_numbers() + [(move,) for move in no_moves()] + [nested(29)]:
                number = first_bad_begun(house, thing, least)
                if number != "good":
                    error = refusal(BadRide, rides_on, house, thing)
                    self.assertEqual((error.number, type(error.number)), (number, type(number)))
                    self.assertEqual(refusal(BadRide, rides_on, house, thing, rounds=least).number, number)


class Refused(unittest.TestCase):
    def test_house_and_rounds_ahead_of_all_else(self):
        check_rounds(self, trees)
        check_rounds(self, how_many_rides)
        for begun in ((), None, [None], (True,)):
            check_rounds(self, rides_on, begun)

    def test_bad_houses(self):
        for thing, place in bad_houses():
            for call in (trees, how_many_rides):
                self.assertEqual(refusal(BadHouse, call, thing).place, place)


if __name__ == "__main__":
    unittest.main()
