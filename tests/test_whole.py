"""Tests over the whole program: what one file tells agrees with what the others tell of the same house."""

import random
import unittest

from oneseat.desk import Desk
from oneseat.ends import best_ends, cost_of, days, end_row, end_steps, free_errands, good_starts
from oneseat.exchanges import alike, exchanged, is_exchange, path
from oneseat.houses import ends, greatest, lies_over, loads, need_house, rolled, started, with_errand, without
from oneseat.housetexts import house_in, house_text
from oneseat.least import can_ride, least_rounds, ride_of
from oneseat.loose import downs, fewest_downs, loose_ride, loose_rounds, loosened, rounds_loose
from oneseat.lots import bare, bears, lot_of, lot_rounds, lots, touched
from oneseat.nexts import barred, first_ones, goes_on, is_open, last_ones, left_behind, there
from oneseat.numbers import nth_ride, number_of
from oneseat.papers import check_paper, is_split, paper, split_of
from oneseat.rides import halts, is_ride, order_of, rounds_of, taken_at
from oneseat.ridetexts import loose_in, loose_text, ride_in, ride_text
from oneseat.seats import idle_ones, rounds_together, seats_downs, seats_rides, seats_rounds
from oneseat.sessions import Session
from oneseat.trees import how_many_rides, rides_on, trees
from tests.samples import LAIN_OVER, MIXED, SIXTEEN_LOTS, TWO_LOTS, sample_houses
from tests.trying import larger_houses, parted_houses

HOUSES = [TWO_LOTS, LAIN_OVER, SIXTEEN_LOTS, MIXED] + sample_houses()[::5] + parted_houses(60) + larger_houses(60, 8)
# All that is asked of a house alone.
OF_A_HOUSE = (
    ends, greatest, loads, bare, touched, lots, lot_rounds, bears, least_rounds, ride_of, split_of, paper, loose_rounds,
    fewest_downs, loose_ride, trees, how_many_rides, first_ones, last_ones, best_ends, good_starts, house_text,
)


class Agreeing(unittest.TestCase):
    def test_rounds_lots_and_papers(self):
        for house in HOUSES:
            most, least = greatest(house), least_rounds(house)
            self.assertEqual(least, most if len(lots(house)) == 1 else most + 1)
            self.assertEqual((can_ride(house, most), can_ride(house, least)), (least == most, True))
            self.assertEqual(how_many_rides(house, rounds=most) > 0, least == most)
            self.assertEqual(house[1] in good_starts(house), least == most)
            self.assertEqual(is_open(house, (), rounds=most), least == most)
            self.assertEqual(check_paper(house, paper(house)), least)
            if least > most:
                self.assertTrue(is_split(house, lot_of(house, house[1])))
            self.assertLessEqual(loose_rounds(house), least)
            self.assertEqual(loose_rounds(house) == most, not house[2] or bears(house))
            self.assertEqual((days(house, 1), seats_rounds(house, (house[1],))), (least, least))

    def test_rides(self):
        for house in HOUSES:
            ride = ride_of(house)
            self.assertTrue(is_ride(house, ride))
            self.assertEqual(rounds_of(house, ride), least_rounds(house))
            stands, gone = halts(house, ride), taken_at(house, ride)
            for number in order_of(house, ride):
                self.assertEqual((house[1] + gone[number]) % house[0], house[2][number][0])
                self.assertEqual(stands[ride.index(number)], house[2][number][0])
                self.assertEqual(sum(lies_over(house, number)), house[2][number][1])
            self.assertTrue(set(order_of(house, ride)[:1]) <= set(first_ones(house)))
            self.assertTrue(set(order_of(house, ride)[-1:]) <= set(last_ones(house)))
            self.assertEqual(rounds_together(house, (house[1],), (ride,)), rounds_of(house, ride))
            self.assertEqual(ride_in(ride_text(ride)), ride)
            self.assertEqual(house_in(house_text(house)), house)

    def test_loose_rides(self):
        for house in HOUSES:
            loose = loose_ride(house)
            self.assertEqual(rounds_loose(house, loose), loose_rounds(house))
            self.assertEqual(len(downs(house, loose)), fewest_downs(house))
            self.assertEqual(loose_in(loose_text(loose)), loose)
            whole = loosened(house, ride_of(house))
            self.assertEqual((rounds_loose(house, whole), downs(house, whole)), (least_rounds(house), ()))
            if loose_rounds(house) == greatest(house):
                self.assertEqual(fewest_downs(house), len(lots(house)) - 1)
                self.assertEqual(seats_downs(house, (house[1],)), fewest_downs(house))
                self.assertEqual(idle_ones(house, (house[1],)), () if bears(house) else (house[1],))

    def test_under_way(self):
        for house in HOUSES:
            ride = ride_of(house)
            for at in {0, 1, len(ride) // 2, len(ride)}:
                begun = ride[:at]
                self.assertTrue(is_open(house, begun))
                on = goes_on(house, begun)
                self.assertEqual((on[:at], is_ride(house, on)), (begun, True))
                shut = barred(house, begun)
                counts = [rides_on(house, begun + (move,)) for move in there(house, begun)]
                self.assertEqual(sum(counts), rides_on(house, begun) if there(house, begun) else 0)
                self.assertEqual([not count for count in counts], [move in shut for move in there(house, begun)])
                self.assertEqual(left_behind(house, begun) == (), shut == ())
                self.assertEqual(on[at:at + 1] in [(move,) for move in shut], False)

    def test_numbers_and_exchanges(self):
        chance = random.Random(83)
        seen = 0
        for house in HOUSES:
            if len(house[2]) + sum(bare(house, rounds=least_rounds(house))) > 40:
                continue
            many = how_many_rides(house)
            numbers = sorted({0, chance.randrange(many), many - 1})
            rides = [nth_ride(house, number) for number in numbers]
            self.assertEqual([number_of(house, ride) for ride in rides], numbers)
            for now in rides:
                for thing in path(house, now, rides[-1]):
                    self.assertTrue(is_exchange(house, now, thing))
                    then = exchanged(house, now, thing)
                    self.assertGreater(alike(then, rides[-1]), alike(now, rides[-1]))
                    now = then
                self.assertEqual(now, rides[-1])
            seen += 1
        self.assertGreater(seen, 50)

    def test_more_and_less(self):
        chance = random.Random(89)
        for house in HOUSES:
            floors, start, errands = house
            least = least_rounds(house)
            for floor in chance.sample(range(floors), min(3, floors)):
                self.assertEqual(end_steps(house, start), floors * least)
                row = end_row(house, floor)
                steps = sum(1 if move is None else errands[move][1] for move in row)
                self.assertEqual(steps, end_steps(house, floor))
                self.assertGreaterEqual(steps, best_ends(house)[0])
            if len(errands) < 40:
                errand = (chance.randrange(floors), chance.randint(1, floors))
                self.assertEqual(least_rounds(with_errand(house, errand)), least + cost_of(house, errand))
                self.assertEqual(errand in free_errands(house), cost_of(house, errand) == 0)
            if errands:
                self.assertLessEqual(least_rounds(without(house, chance.randrange(len(errands)))), least)

    def test_seats(self):
        for house in HOUSES:
            starts = tuple(range(min(6, house[0])))
            rides = seats_rides(house, starts)
            self.assertEqual(rounds_together(house, starts, rides), seats_rounds(house, starts))
            self.assertLessEqual(seats_rounds(house, starts), least_rounds(started(house, 0)))
            idle = [floor for floor in starts if not bears(started(house, floor))]
            self.assertEqual(list(idle_ones(house, starts)), idle)

    def test_rolled_houses_tell_alike(self):
        for house in HOUSES[::3]:
            other = rolled(house, 5)
            for call in (greatest, least_rounds, loose_rounds, fewest_downs, trees, how_many_rides, first_ones):
                self.assertEqual(call(other), call(house), call)
            self.assertEqual(best_ends(other)[0], best_ends(house)[0])
            turned = sorted((floor + 5) % house[0] for floor in best_ends(house)[1])
            self.assertEqual(list(best_ends(other)[1]), turned)


class SessionsAndDesks(unittest.TestCase):
    def test_they_tell_what_the_house_tells(self):
        for house in HOUSES[::2]:
            session, desk = Session(house[0], start=house[1]), Desk()
            self.assertEqual(desk.said(f"ring {house[0]} {house[1]}"), "done")
            for number, (begin, steps) in enumerate(house[2]):
                self.assertEqual(session.come((begin, steps)), number)
                self.assertEqual(desk.said(f"come {begin} {steps}"), str(number))
            self.assertEqual(session.house_now(), house)
            need_house(session.house_now())
            self.assertEqual(session.left(), house[0] * least_rounds(house))
            shut = barred(house, ())
            free = tuple(move for move in there(house, ()) if move not in shut)
            self.assertEqual(session.free_moves(), free)
            self.assertTrue(is_ride(house, session.way_home()))
            self.assertEqual(desk.said("rides"), str(how_many_rides(house)))
            self.assertEqual(desk.said("least"), str(least_rounds(house)))


class NothingIsKept(unittest.TestCase):
    def test_asked_again_all_is_told_alike(self):
        for house in HOUSES[::7]:
            before = repr(house)
            first = [call(house) for call in OF_A_HOUSE]
            self.assertEqual([call(house) for call in OF_A_HOUSE], first)
            self.assertEqual(repr(house), before)


if __name__ == "__main__":
    unittest.main()
