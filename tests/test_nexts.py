"""Tests of oneseat.nexts: point 11."""

import unittest

from oneseat import nexts as module
from oneseat.errors import BadHouse, BadRide, NotOpen
from oneseat.least import least_rounds, ride_of
from oneseat.nexts import barred, first_ones, goes_on, is_open, last_ones, left_behind, there
from oneseat.trees import rides_on
from tests.samples import (
    EMPTY_2, EMPTY_16, FULL, HEAVIEST, LAIN_OVER, MIXED, SIXTEEN_LOTS, TWO_LOTS, bad_houses, check_interface,
    check_rounds, loads_by_walking, nested, no_moves, no_numbers, plain, plain_moves, refusal, sample_houses,
    spoilt_rides,
)
from tests.trying import (
    Tries, beginnings, begun_by, first_bad_begun, larger_houses, parted_houses, small_houses, walk,
)

UNDER_WAY = "(house, begun, *, rounds=None)"
SIGNATURES = {
    "is_open": UNDER_WAY, "there": UNDER_WAY, "barred": UNDER_WAY, "left_behind": UNDER_WAY, "goes_on": UNDER_WAY,
    "first_ones": "(house, *, rounds=None)", "last_ones": "(house, *, rounds=None)",
}
ALL = (is_open, there, barred, left_behind, goes_on)
OPEN_ALONE = (barred, left_behind, goes_on)


def ends_by_trying(house, tries):
    """Give which errands are the first and the last one in some ride, by trying."""
    first = [number for number in range(len(house[2])) if first_in_some(house, tries, number)]
    return tuple(first), tuple(number for number in range(len(house[2])) if last_in_some(house, tries, number))


def first_in_some(house, tries, number):
    return any(
        tries.ways[steps][done] for gone in range(tries.total + 1)
        for move, steps, done in tries.moves(gone, 0) if move == number
    )


def last_in_some(house, tries, number):
    """Tell whether the errand can be taken behind all others: all states that can be come to are gone through."""
    others = tries.whole & ~(1 << number)
    come = {(0, 0)}
    for gone in range(tries.total + 1):
        for taken in [taken for at, taken in sorted(come) if at == gone]:
            come |= {(steps, done) for _, steps, done in tries.moves(gone, taken)}
    return any(
        move == number for gone, taken in come if taken == others for move, _, _ in tries.moves(gone, taken)
    )


def steps_of(house, begun):
    return sum(1 if move is None else house[2][move][1] for move in begun)


def mask_of(begun):
    return sum(1 << move for move in begun if move is not None)


class Interface(unittest.TestCase):
    def test_names_of_arguments(self):
        check_interface(self, module, SIGNATURES)

    def test_by_names(self):
        told = [call(rounds=1, begun=(), house=EMPTY_2) for call in ALL]
        self.assertEqual(told, [True, (None,), (), (), (None, None)])
        self.assertEqual(first_ones(rounds=1, house=EMPTY_2), ())


class ByHand(unittest.TestCase):
    def test_no_errands(self):
        for house in (EMPTY_2, EMPTY_16):
            for named in ({}, {"rounds": None}, {"rounds": 0}):
                self.assertEqual([call(house, (), **named) for call in ALL], [True, (), (), (), ()])
                self.assertEqual((first_ones(house, **named), last_ones(house, **named)), ((), ()))
                for call in ALL:
                    self.assertEqual(refusal(BadRide, call, house, (None,), **named).number, 0)
            whole = (None,) * (130 * house[0])
            for many in (0, 1, len(whole) - 1):
                told = [call(house, whole[:many], rounds=130) for call in ALL]
                self.assertEqual(told, [True, (None,), (), (), whole])
            self.assertEqual([call(house, whole, rounds=130) for call in ALL], [True, (), (), (), whole])
            self.assertEqual((first_ones(house, rounds=130), last_ones(house, rounds=130)), ((), ()))

    def test_two_lots(self):
        self.assertIs(is_open(TWO_LOTS, (), rounds=2), False)
        self.assertIs(is_open(TWO_LOTS, ()), True)
        self.assertEqual(there(TWO_LOTS, (), rounds=2), (0,))
        self.assertEqual(there(TWO_LOTS, (0,), rounds=2), ())
        self.assertEqual(there(TWO_LOTS, ()), (None, 0))
        self.assertEqual(refusal(BadRide, there, TWO_LOTS, (None,), rounds=2).number, 0)
        for call in OPEN_ALONE:
            for begun in ((), (0,)):
                refusal(NotOpen, call, TWO_LOTS, begun, rounds=2)
            self.assertEqual(refusal(BadRide, call, TWO_LOTS, (0, 0), rounds=2).number, 1)
        self.assertEqual(first_ones(TWO_LOTS, rounds=2), ())
        self.assertEqual(last_ones(TWO_LOTS, rounds=2), ())
        self.assertEqual((first_ones(TWO_LOTS), last_ones(TWO_LOTS)), ((0, 1), (0, 1)))

    def test_a_barred_move(self):
        house = (2, 0, ((0, 1), (1, 2), (1, 1)))
        self.assertEqual(there(house, (0,)), (1, 2))
        self.assertEqual(barred(house, (0,)), (2,))
        self.assertEqual(left_behind(house, (0,)), (1,))
        self.assertEqual(goes_on(house, (0,)), (0, 1, 2))
        self.assertIs(is_open(house, (0, 2)), False)
        self.assertEqual(there(house, (0, 2)), ())
        for call in OPEN_ALONE:
            refusal(NotOpen, call, house, (0, 2))
        self.assertEqual((first_ones(house), last_ones(house)), ((0,), (2,)))

    def test_a_barred_bare_step(self):
        house = (3, 0, ((0, 1), (1, 3)))
        self.assertEqual(least_rounds(house), 2)
        self.assertEqual(there(house, (0,)), (None, 1))
        self.assertEqual(barred(house, (0,)), (None,))
        self.assertEqual(left_behind(house, (0,)), (1,))
        self.assertEqual(goes_on(house, (0,)), (0, 1, None, None))
        self.assertEqual(refusal(BadRide, is_open, house, (0, None, 1)).number, 2)
        self.assertIs(is_open(house, (0, None)), False)

    def test_start_that_is_lain_over_alone(self):
        for call in OPEN_ALONE:
            refusal(NotOpen, call, LAIN_OVER, (), rounds=1)
        self.assertEqual(there(LAIN_OVER, (), rounds=1), ())
        self.assertIs(is_open(LAIN_OVER, (), rounds=1), False)
        self.assertEqual(goes_on(LAIN_OVER, ()), (None, 0, None, None, None))

    def test_alike_ones(self):
        house = (2, 1, ((1, 2), (1, 2), (0, 1)))
        self.assertEqual(there(house, ()), (None, 0, 1))
        self.assertEqual(there(house, (None, 2)), (0, 1))
        self.assertEqual(refusal(BadRide, there, house, (0, 0)).number, 1)
        self.assertEqual(there(house, (1,), rounds=4), (None, 0))


class ByTrying(unittest.TestCase):
    def check(self, house, many, limit):
        tries = Tries(house, many)
        seen = 0
        for begun in beginnings(house, many, limit):
            left = begun_by(house, begun, many)
            good = tries.ways[steps_of(house, begun)][mask_of(begun)] > 0
            here = left.there()
            self.assertIs(is_open(house, begun, rounds=many), good, (house, begun, many))
            self.assertEqual(there(house, begun, rounds=many), tuple(here))
            self.assertTrue(plain_moves(there(house, begun, rounds=many)))
            if not good:
                for call in OPEN_ALONE:
                    refusal(NotOpen, call, house, begun, rounds=many)
                self.assertEqual(rides_on(house, begun, rounds=many), 0)
                continue
            on = [begun + (move,) for move in here]
            shut = [move for move, row in zip(here, on) if not tries.ways[steps_of(house, row)][mask_of(row)]]
            self.assertEqual(barred(house, begun, rounds=many), tuple(shut))
            self.assertLessEqual(len(shut), 1)
            seen += len(shut)
            lost = begun_by(house, begun + (shut[0],), many).lost() if shut else ()
            self.assertEqual(left_behind(house, begun, rounds=many), lost)
            self.assertTrue(plain(left_behind(house, begun, rounds=many)))
            if shut:
                self.assertTrue(left.floor in lost and left.floor != house[1] and len(here) > 1)
            ride = goes_on(house, begun, rounds=many)
            self.assertEqual(ride[:len(begun)], begun)
            self.assertEqual(walk(house, ride)[1], many)
            self.assertTrue(plain_moves(ride))
        return seen

    def test_all_beginnings_of_small_houses(self):
        seen = 0
        for house in small_houses()[::9]:
            most = max(loads_by_walking(house))
            for many in (most, most + 1):
                seen += self.check(house, many, 60)
        self.assertGreater(seen, 100)

    def test_beginnings_of_larger_houses(self):
        seen = 0
        for house in larger_houses(60, 5) + parted_houses(60, 6):
            most = max(loads_by_walking(house))
            for many in (most, most + 1):
                seen += self.check(house, many, 60)
        self.assertGreater(seen, 50)

    def test_rounds_left_out_are_the_least(self):
        for house in small_houses()[::50] + [TWO_LOTS, LAIN_OVER, MIXED]:
            least = least_rounds(house)
            for begun in beginnings(house, least, 12):
                for call in ALL:
                    if call in OPEN_ALONE and not is_open(house, begun):
                        refusal(NotOpen, call, house, begun)
                        continue
                    self.assertEqual(call(house, begun), call(house, begun, rounds=least))
                    self.assertEqual(call(house, begun, rounds=None), call(house, begun, rounds=least))

    def test_whole_rides_are_open_and_nothing_is_there(self):
        for house in small_houses()[::5] + larger_houses(60):
            for many in (least_rounds(house), least_rounds(house) + 1):
                ride = ride_of(house, rounds=many)
                self.assertEqual([call(house, ride, rounds=many) for call in ALL], [True, (), (), (), ride])
                for move in [None] + list(range(len(house[2]))):
                    self.assertEqual(refusal(BadRide, is_open, house, ride + (move,), rounds=many).number, len(ride))

    def test_first_and_last_ones(self):
        for house in small_houses()[::6] + larger_houses(60, 5) + parted_houses(60, 6):
            most = max(loads_by_walking(house))
            for many in (most, most + 1, most + 2):
                told = (first_ones(house, rounds=many), last_ones(house, rounds=many))
                self.assertEqual(told, ends_by_trying(house, Tries(house, many)), (house, many))
                self.assertTrue(plain(told))
            least = least_rounds(house)
            self.assertEqual(first_ones(house), first_ones(house, rounds=least))
            self.assertEqual(last_ones(house), last_ones(house, rounds=least))
            self.assertEqual(last_ones(house, rounds=None), last_ones(house, rounds=least))

    def test_two_more_rounds_let_each_be_first_and_last(self):
        for house in sample_houses() + parted_houses(60):
            whole = tuple(range(len(house[2])))
            most = max(loads_by_walking(house))
            self.assertEqual(first_ones(house, rounds=most + 2), whole)
            self.assertEqual(last_ones(house, rounds=most + 2), whole)


class Large(unittest.TestCase):
    def test_along_whole_rides(self):
        for house in (FULL, MIXED, HEAVIEST, SIXTEEN_LOTS) + tuple(parted_houses(10)):
            for many in (least_rounds(house), 130):
                ride = ride_of(house, rounds=many)
                places = {0, 1, 2, len(ride) // 3, len(ride) // 2, len(ride) - 3, len(ride) - 1}
                for at in sorted(places & set(range(len(ride)))):
                    begun = ride[:at]
                    self.assertIs(is_open(house, begun, rounds=many), True)
                    here = there(house, begun, rounds=many)
                    self.assertEqual(here, tuple(begun_by(house, begun, many).there()))
                    self.assertIn(ride[at], here)
                    shut = barred(house, begun, rounds=many)
                    self.assertLessEqual(len(shut), 1)
                    self.assertNotIn(ride[at], shut)
                    self.assertEqual(left_behind(house, begun, rounds=many) == (), shut == ())
                    for move in here:
                        number = rides_on(house, begun + (move,), rounds=many)
                        self.assertEqual(number == 0, move in shut)
                    told = goes_on(house, begun, rounds=many)
                    self.assertEqual(told[:at], begun)
                    self.assertEqual(walk(house, told)[1], many)


class Refused(unittest.TestCase):
    def test_no_beginnings(self):
        for house in (EMPTY_2, EMPTY_16, MIXED, TWO_LOTS, LAIN_OVER):
            most = max(loads_by_walking(house))
            for many in (most, most + 1):
                ride = ride_of(house, rounds=max(many, least_rounds(house)))
                for thing in spoilt_rides(house, ride) + no_numbers() + [nested(29), (nested(28),)]:
                    number = first_bad_begun(house, thing, many)
                    if number == "good":
                        self.assertIn(is_open(house, thing, rounds=many), (True, False))
                        continue
                    for call in ALL:
                        error = refusal(BadRide, call, house, thing, rounds=many)
                        self.assertEqual((error.number, type(error.number)), (number, type(number)))

    def test_no_moves_behind_good_ones(self):
        for house in (EMPTY_2, EMPTY_16, MIXED, FULL):
            for ahead in (0, 1, 50):
                for thing in no_moves():
                    for call in ALL:
                        row = (None,) * ahead + (thing, thing)
                        self.assertEqual(refusal(BadRide, call, house, row, rounds=130).number, ahead)

    def test_one_bare_step_too_many(self):
        for house in (MIXED, TWO_LOTS, (2, 0, ((0, 1), (0, 1)))):
            for many in (least_rounds(house), 130):
                left = begun_by(house, (), many)
                begun = 0
                while None in left.there():
                    left.go(None)
                    begun += 1
                self.assertEqual(refusal(BadRide, there, house, (None,) * (begun + 5), rounds=many).number, begun)
                self.assertNotIn(None, there(house, (None,) * begun, rounds=many))

    def test_house_and_rounds_ahead_of_all_else(self):
        check_rounds(self, first_ones)
        check_rounds(self, last_ones)
        for call in ALL:
            for begun in ((), None, (True,)):
                check_rounds(self, call, begun)

    def test_bad_houses(self):
        for thing, place in bad_houses():
            for call in (first_ones, last_ones):
                self.assertEqual(refusal(BadHouse, call, thing).place, place)


if __name__ == "__main__":
    unittest.main()
