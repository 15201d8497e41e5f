"""Tests of large houses by many rounds: what the files tell of one house agrees, points 3 to 12."""

import random
import unittest

from oneseat.houses import greatest, loads
from oneseat.least import least_rounds, ride_of
from oneseat.loose import fewest_downs, loose_ride, loose_rounds
from oneseat.lots import bare, bears, lot_of, lot_rounds, lots, touched
from oneseat.nexts import barred, first_ones, goes_on, is_open, last_ones, left_behind, there
from oneseat.papers import check_paper, is_split, paper, split_of
from oneseat.trees import how_many_rides, rides_on
from tests.samples import FULL, HEAVIEST, SIXTEEN_LOTS, loads_by_walking
from tests.test_lots import lots_by_walking
from tests.trying import begun_by, loose_walk, walk


def large_houses():
    """Give houses of 16 floors with forty errands, spread and side by side, the same ones each time."""
    chance = random.Random(11)
    told = [(16, 3, tuple(((7 * k) % 16, 1 + (11 * k) % 48) for k in range(40))), FULL, HEAVIEST, SIXTEEN_LOTS]
    for longest in (2, 8, 16, 48):
        told.append((16, chance.randrange(16), tuple(
            (chance.randrange(16), chance.randint(1, longest)) for _ in range(40)
        )))
    # All from even floors to even ones: the odd ones are lain over or bare.
    told.append((16, 3, tuple((2 * chance.randrange(8), 2 * chance.randint(1, 24)) for _ in range(40))))
    told.append((16, 4, tuple((number % 16, 16 * (1 + number % 3)) for number in range(40))))
    return told


def rounds_asked(house):
    """Give numbers of rounds from GREATEST to 130."""
    most = max(loads_by_walking(house))
    return sorted({most, most + 1, most + 2, 129, 130})


class Large(unittest.TestCase):
    def test_lots(self):
        for house in large_houses():
            self.assertEqual(list(loads(house)), loads_by_walking(house))
            for many in rounds_asked(house):
                rows = lots_by_walking(house, many)
                told = lots(house, rounds=many)
                self.assertEqual([set(lot) for lot in told], [set(lot) for lot in rows])
                self.assertEqual(sorted(sum(told, ())), list(touched(house, rounds=many)))
                self.assertEqual(sum(lot_rounds(house, rounds=many)), many)
                self.assertEqual(bare(house, rounds=many), tuple(many - load for load in loads(house)))
                home = lot_of(house, house[1], rounds=many)
                self.assertIs(bears(house, rounds=many), lot_rounds(house, rounds=many)[told.index(home)] > 0)

    def test_rides_and_papers(self):
        for house in large_houses():
            most = greatest(house)
            least = most + (len(lots(house)) > 1)
            self.assertEqual(least_rounds(house), least)
            self.assertEqual(check_paper(house, paper(house)), least)
            self.assertEqual(split_of(house) is None, least == most)
            if least > most:
                self.assertIs(is_split(house, split_of(house)), True)
            for many in rounds_asked(house):
                if many >= least:
                    self.assertEqual(walk(house, ride_of(house, rounds=many))[1], many)

    def test_loose_rides(self):
        for house in large_houses():
            for many in rounds_asked(house):
                if many >= loose_rounds(house):
                    gone, downs = loose_walk(house, loose_ride(house, rounds=many))
                    self.assertEqual((gone, len(downs)), (many, fewest_downs(house, rounds=many)))

    def test_under_way(self):
        chance = random.Random(13)
        for house in large_houses():
            for many in (least_rounds(house), 130):
                ride = ride_of(house, rounds=many)
                for at in sorted(chance.sample(range(len(ride) + 1), 6)):
                    begun = ride[:at]
                    self.check_under_way(house, begun, many)

    def check_under_way(self, house, begun, many):
        here = there(house, begun, rounds=many)
        self.assertEqual(list(here), begun_by(house, begun, many).there())
        self.assertEqual(walk(house, goes_on(house, begun, rounds=many))[1], many)
        shut = [move for move in here if not is_open(house, begun + (move,), rounds=many)]
        self.assertEqual(list(barred(house, begun, rounds=many)), shut)
        lost = begun_by(house, begun + tuple(shut), many).lost() if shut else ()
        self.assertEqual(left_behind(house, begun, rounds=many), lost)
        if here:
            on = [rides_on(house, begun + (move,), rounds=many) for move in here]
            self.assertEqual(sum(on), rides_on(house, begun, rounds=many))
            self.assertEqual([number == 0 for number in on], [move in shut for move in here])

    def test_first_and_last_ones(self):
        for house in large_houses():
            many = least_rounds(house)
            first = []
            begun = ()
            for _ in range(house[0]):
                here = there(house, begun)
                first += [move for move in here if move is not None and is_open(house, begun + (move,))]
                if None not in here or not is_open(house, begun + (None,)):
                    break
                begun += (None,)
            self.assertEqual(first_ones(house), tuple(sorted(first)))
            # By 130 rounds bare steps lead anywhere first, and anywhere home at last.
            every = tuple(range(len(house[2])))
            self.assertEqual(first_ones(house, rounds=130), every if many < 130 else first_ones(house))
            self.assertEqual(last_ones(house, rounds=130), every if many < 130 else last_ones(house))
            self.assertGreater(how_many_rides(house), 0)


if __name__ == "__main__":
    unittest.main()
