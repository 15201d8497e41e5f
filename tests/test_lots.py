"""Tests of oneseat.lots: points 3, 4 and 6."""

import unittest

from oneseat import lots as module
from oneseat.errors import BadHouse, BadNumber, TooFew
from oneseat.lots import bare, bears, lot_of, lot_rounds, lots, touched
from tests.samples import (
    EMPTY_2, EMPTY_16, FULL, HEAVIEST, HUGE, LAIN_OVER, MIXED, SIXTEEN_LOTS, TWO_LOTS, bad_houses, bad_rounds,
    check_interface, check_rounds, loads_by_walking, no_numbers, plain, refusal, sample_houses,
)
from tests.trying import larger_houses, parted_houses, small_houses

SIGNATURES = {
    "bare": "(house, *, rounds=None)", "touched": "(house, *, rounds=None)", "lots": "(house, *, rounds=None)",
    "lot_of": "(house, floor, *, rounds=None)", "lot_rounds": "(house, *, rounds=None)",
    "bears": "(house, *, rounds=None)",
}
SAMPLES = sample_houses() + [TWO_LOTS, LAIN_OVER, SIXTEEN_LOTS, HEAVIEST]


def arrows_of(house, many):
    """List all arrows by so many rounds, from floor to floor, with their steps."""
    floors, _, errands = house
    told = [(begin, (begin + steps) % floors, steps) for begin, steps in errands]
    for step, load in enumerate(loads_by_walking(house)):
        told += [(step, (step + 1) % floors, 1)] * (many - load)
    return told


def lots_by_walking(house, many):
    """Give the lots, each found by going from a floor along the arrows, forth and back, as far as that leads."""
    arrows = arrows_of(house, many)
    left = {house[1]} | {arrow[0] for arrow in arrows} | {arrow[1] for arrow in arrows}
    told = []
    while left:
        lot, new = set(), {min(left)}
        while new:
            lot |= new
            new = {b for a, b, _ in arrows if a in lot} | {a for a, b, _ in arrows if b in lot}
            new -= lot
        told.append(tuple(sorted(lot)))
        left -= lot
    return tuple(sorted(told))


def check_house(test, house, many, named):
    told = lots_by_walking(house, many)
    arrows = arrows_of(house, many)
    rounds = [sum(steps for begin, _, steps in arrows if begin in lot) for lot in told]
    test.assertTrue(all(steps % house[0] == 0 for steps in rounds))
    test.assertEqual(bare(house, **named), tuple(many - load for load in loads_by_walking(house)))
    test.assertEqual(touched(house, **named), tuple(sorted(floor for lot in told for floor in lot)))
    test.assertEqual(lots(house, **named), told)
    test.assertEqual(lot_rounds(house, **named), tuple(steps // house[0] for steps in rounds))
    test.assertEqual(sum(lot_rounds(house, **named)), many)
    home = [steps for lot, steps in zip(told, rounds) if house[1] in lot]
    test.assertIs(bears(house, **named), home[0] > 0)
    for floor in range(house[0]):
        of_it = [lot for lot in told if floor in lot]
        test.assertEqual(lot_of(house, floor, **named), of_it[0] if of_it else ())
    for call in (bare, touched, lots, lot_rounds):
        test.assertTrue(plain(call(house, **named)))


class Interface(unittest.TestCase):
    def test_names_of_arguments(self):
        check_interface(self, module, SIGNATURES)

    def test_by_names(self):
        self.assertEqual(bare(rounds=3, house=TWO_LOTS), (1, 1, 2, 2))
        self.assertEqual(lot_of(rounds=2, floor=1, house=TWO_LOTS), (1,))


class ByHand(unittest.TestCase):
    def test_no_errands(self):
        for house in (EMPTY_2, EMPTY_16):
            floors, start, _ = house
            for named in ({}, {"rounds": None}, {"rounds": 0}):
                self.assertEqual(bare(house, **named), (0,) * floors)
                self.assertEqual(touched(house, **named), (start,))
                self.assertEqual(lots(house, **named), ((start,),))
                self.assertEqual(lot_rounds(house, **named), (0,))
                self.assertIs(bears(house, **named), False)
                for floor in range(floors):
                    self.assertEqual(lot_of(house, floor, **named), (start,) if floor == start else ())
            for many in (1, 2, 130):
                self.assertEqual(bare(house, rounds=many), (many,) * floors)
                self.assertEqual(lots(house, rounds=many), (tuple(range(floors)),))
                self.assertEqual(lot_rounds(house, rounds=many), (many,))
                self.assertIs(bears(house, rounds=many), True)

    def test_two_lots(self):
        self.assertEqual(bare(TWO_LOTS), (0, 0, 1, 1))
        self.assertEqual(touched(TWO_LOTS), (0, 1, 2, 3))
        self.assertEqual(lots(TWO_LOTS), ((0, 2, 3), (1,)))
        self.assertEqual(lot_rounds(TWO_LOTS), (1, 1))
        self.assertIs(bears(TWO_LOTS), True)
        self.assertEqual(lot_of(TWO_LOTS, 3), (0, 2, 3))
        self.assertEqual(lots(TWO_LOTS, rounds=3), ((0, 1, 2, 3),))
        self.assertEqual(lot_rounds(TWO_LOTS, rounds=3), (3,))

    def test_start_that_is_lain_over_alone(self):
        self.assertEqual(bare(LAIN_OVER), (0, 0, 0, 0))
        self.assertEqual(touched(LAIN_OVER), (0, 1))
        self.assertEqual(lots(LAIN_OVER), ((0,), (1,)))
        self.assertEqual(lot_rounds(LAIN_OVER), (0, 1))
        self.assertIs(bears(LAIN_OVER), False)
        self.assertEqual([lot_of(LAIN_OVER, floor) for floor in range(4)], [(0,), (1,), (), ()])
        self.assertEqual(touched(LAIN_OVER, rounds=2), (0, 1, 2, 3))
        self.assertIs(bears(LAIN_OVER, rounds=2), True)

    def test_start_touched_by_no_errand_but_by_bare_steps(self):
        house = (4, 3, ((0, 2),))
        self.assertEqual(lots(house), ((0, 2, 3),))
        self.assertEqual(touched(house), (0, 2, 3))
        self.assertIs(bears(house), True)
        self.assertEqual(lot_of(house, 1), ())

    def test_as_many_lots_as_floors(self):
        self.assertEqual(lots(SIXTEEN_LOTS), tuple((floor,) for floor in range(16)))
        self.assertEqual(lot_rounds(SIXTEEN_LOTS), (1,) * 16)
        self.assertEqual(lots(HEAVIEST), tuple((floor,) for floor in range(16)))
        self.assertEqual(lot_rounds(HEAVIEST), (9,) * 8 + (6,) * 8)
        self.assertEqual(lots((2, 0, ((0, 2), (1, 6)))), ((0,), (1,)))

    def test_lots_between_each_other(self):
        house = (6, 1, ((0, 2), (2, 2), (4, 2), (1, 2), (3, 2), (5, 2)))
        self.assertEqual(lots(house), ((0, 2, 4), (1, 3, 5)))
        self.assertEqual(lot_rounds(house), (1, 1))
        self.assertEqual(lot_of(house, 5), (1, 3, 5))


class ByWalking(unittest.TestCase):
    def test_by_greatest(self):
        for house in SAMPLES + small_houses() + larger_houses() + parted_houses():
            check_house(self, house, max(loads_by_walking(house)), {})

    def test_by_rounds_told(self):
        for house in SAMPLES + small_houses()[::7] + larger_houses() + parted_houses():
            most = max(loads_by_walking(house))
            check_house(self, house, most, {"rounds": most})
            check_house(self, house, most, {"rounds": None})
            check_house(self, house, most + 1, {"rounds": most + 1})
            check_house(self, house, 130, {"rounds": 130})

    def test_one_lot_by_more_than_greatest(self):
        for house in small_houses() + parted_houses():
            many = max(loads_by_walking(house)) + 1
            self.assertEqual(lots(house, rounds=many), (tuple(range(house[0])),))


class Refused(unittest.TestCase):
    def test_house_and_rounds_ahead_of_all_else(self):
        for call in (bare, touched, lots, lot_rounds, bears):
            check_rounds(self, call)
        for floor in (0, 99, None, True, "0", [0]):
            check_rounds(self, lot_of, floor)

    def test_rounds_ahead_of_the_floor(self):
        for thing in bad_rounds():
            self.assertIs(refusal(BadNumber, lot_of, MIXED, -1, rounds=thing).about, thing)
        self.assertEqual(refusal(TooFew, lot_of, MIXED, -1, rounds=11).least, 12)
        self.assertEqual(refusal(BadNumber, lot_of, MIXED, -1, rounds=12).about, -1)

    def test_floors(self):
        for house in (EMPTY_2, EMPTY_16, MIXED, FULL):
            for thing in no_numbers() + [-1, house[0], house[0] + 1, -HUGE, HUGE]:
                for named in ({}, {"rounds": None}, {"rounds": 130}):
                    self.assertIs(refusal(BadNumber, lot_of, house, thing, **named).about, thing)

    def test_bad_houses(self):
        for thing, place in bad_houses():
            self.assertEqual(refusal(BadHouse, lot_of, thing, 0).place, place)


if __name__ == "__main__":
    unittest.main()
