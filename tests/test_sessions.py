"""Tests of oneseat.sessions: points 0, 1, 2, 5, 11, 14 and 16."""

import inspect
import itertools
import random
import unittest

from oneseat import sessions as module
from oneseat.ends import end_steps
from oneseat.errors import BadDeed, BadErrand, BadNumber, Gone, NoErrand, TooMany
from oneseat.houses import need_house, started
from oneseat.least import least_rounds
from oneseat.sessions import Session
from tests.samples import HUGE, no_errands, no_numbers, plain, plain_moves, refusal

SIGNATURES = {
    "__init__": "(self, floors, *, start=0)", "come": "(self, errand)", "off": "(self, number)",
    "move": "(self, move)", "at": "(self)", "gone": "(self)", "waiting": "(self)", "house_now": "(self)",
    "left": "(self)", "costs": "(self, move)", "free_moves": "(self)", "way_home": "(self)", "journal": "(self)",
    "twin": "(self)", "__eq__": "(self, other)", "__len__": "(self)",
}


class Plain:
    """A session as the document tells it, by trying all ways on."""

    def __init__(self, floors, start):
        self.floors, self.start = floors, start
        self.floor, self.gone, self.waits, self.deeds, self.next = start, 0, {}, [], 0

    def do(self, deed, thing):
        if deed == "come":
            self.waits[self.next] = thing
            self.next += 1
        elif deed == "off":
            del self.waits[thing]
        else:
            steps = 1 if thing is None else self.waits.pop(thing)[1]
            self.floor, self.gone = (self.floor + steps) % self.floors, self.gone + steps
        self.deeds.append((deed, thing))

    def copy(self):
        other = Plain(self.floors, self.start)
        other.floor, other.waits = self.floor, dict(self.waits)
        return other

    def moves(self):
        return [None] + [number for number, (begin, _) in sorted(self.waits.items()) if begin == self.floor]

    def left(self):
        """Give the fewest steps to do all that waits and be at the start, step by step."""
        errands = sorted(self.waits.items())
        whole = (1 << len(errands)) - 1
        come, gone = {0: {0}}, 0
        while True:
            for taken in come.pop(gone, ()):
                floor = (self.floor + gone) % self.floors
                if taken == whole and floor == self.start:
                    return gone
                come.setdefault(gone + 1, set()).add(taken)
                for at, (_, (begin, steps)) in enumerate(errands):
                    if begin == floor and not taken >> at & 1:
                        come.setdefault(gone + steps, set()).add(taken | 1 << at)
            gone += 1

    def costs(self, move):
        other = self.copy()
        other.do("move", move)
        steps = 1 if move is None else self.waits[move][1]
        return steps + other.left() - self.left()


def all_told(session):
    """Give all that a session tells, for what is refused must change nothing of it."""
    house = session.house_now()
    return (
        session.at(), session.gone(), session.waiting(), house, session.left(), session.free_moves(),
        session.journal(), len(session), list(session.waiting()),
    )


def led(floors, start, deeds):
    """Give a session that these deeds were done in."""
    session = Session(floors, start=start)
    for deed, thing in deeds:
        getattr(session, deed)(thing)
    return session


def some_deed(chance, known, most):
    """Give a deed that can be done."""
    moves = known.moves()
    deed = chance.choice(("come", "come", "off", "move", "move", "move"))
    if deed == "come" and len(known.waits) < most:
        return "come", (chance.randrange(known.floors), chance.randint(1, 3 * known.floors))
    if deed == "off" and known.waits:
        return "off", chance.choice(sorted(known.waits))
    return "move", chance.choice(moves)


def forty(floors, start):
    session = Session(floors, start=start)
    for number in range(40):
        session.come(((7 * number) % floors, 1 + (11 * number) % (3 * floors)))
    return session


class Interface(unittest.TestCase):
    def test_the_class(self):
        self.assertEqual(Session.__module__, module.__name__)
        self.assertEqual(str(inspect.signature(Session)), "(floors, *, start=0)")
        for name, signature in SIGNATURES.items():
            self.assertIn(name, vars(Session))
            self.assertEqual(str(inspect.signature(vars(Session)[name])), signature, name)

    def test_by_names(self):
        session = Session(floors=4, start=1)
        self.assertEqual(session.come(errand=(1, 2)), 0)
        self.assertEqual(session.costs(move=0), 0)
        self.assertIsNone(session.move(move=0))
        self.assertEqual(session.come(errand=(0, 2)), 1)
        self.assertIsNone(session.off(number=1))

    def test_at_first(self):
        for floors in range(2, 17):
            for start in range(floors):
                session = Session(floors, start=start)
                told = (session.at(), session.gone(), session.waiting(), session.house_now(), session.left())
                self.assertEqual(told, (start, 0, {}, (floors, start, ()), 0))
                self.assertEqual((session.free_moves(), session.way_home(), session.journal()), ((), (), ()))
                self.assertEqual((len(session), session.costs(None)), (0, floors))
            self.assertEqual(Session(floors).at(), 0)


class ByHand(unittest.TestCase):
    def test_a_short_one(self):
        session = Session(4, start=1)
        self.assertEqual([session.come((1, 4)), session.come((0, 2))], [0, 1])
        self.assertEqual(session.left(), 12)
        self.assertEqual(session.free_moves(), (None, 0))
        self.assertIsNone(session.move(None))
        self.assertEqual((session.at(), session.gone(), session.left()), (2, 1, 11))
        self.assertEqual(session.free_moves(), (None,))
        session.move(None)
        session.move(None)
        self.assertEqual((session.at(), session.free_moves(), session.left()), (0, (1,), 9))
        self.assertEqual(session.costs(None), 4)
        session.move(1)
        self.assertEqual(session.waiting(), {0: (1, 4)})
        self.assertEqual((session.left(), session.at(), session.way_home()), (7, 2, (None, None, None, 0)))
        self.assertIsNone(session.off(0))
        self.assertEqual((session.left(), session.way_home(), session.come((3, 1))), (3, (None,) * 3, 2))
        deeds = (("come", (1, 4)), ("come", (0, 2)), ("move", None), ("move", None), ("move", None), ("move", 1),
                 ("off", 0), ("come", (3, 1)))
        self.assertEqual(session.journal(), deeds)
        self.assertEqual((session.waiting(), len(session), session.gone()), ({2: (3, 1)}, 1, 5))
        self.assertEqual(session.house_now(), (4, 1, ((3, 1),)))

    def test_each_number_once(self):
        session = Session(2)
        for number in range(100):
            self.assertEqual(session.come((0, 2)), number)
            if number % 2:
                session.off(number)
            else:
                session.move(number)
        self.assertEqual((session.waiting(), session.come((0, 2))), ({}, 100))

    def test_a_bare_step_at_the_start_with_nothing_to_do(self):
        session = Session(3)
        self.assertEqual((session.costs(None), session.free_moves()), (3, ()))
        session.move(None)
        self.assertEqual((session.left(), session.costs(None), session.free_moves()), (2, 0, (None,)))


class ByTrying(unittest.TestCase):
    def check(self, session, known):
        self.assertEqual((session.at(), session.gone()), (known.floor, known.gone))
        self.assertEqual(list(session.waiting().items()), sorted(known.waits.items()))
        self.assertEqual(session.journal(), tuple(known.deeds))
        errands = tuple(errand for _, errand in sorted(known.waits.items()))
        self.assertEqual(session.house_now(), (known.floors, known.start, errands))
        self.assertEqual(len(session), len(errands))
        self.assertEqual(session.left(), known.left(), (session.house_now(), known.floor))
        costs = {move: known.costs(move) for move in known.moves()}
        for move, cost in costs.items():
            self.assertEqual(session.costs(move), cost, (session.house_now(), known.floor, move))
            self.assertIn(cost, (0, known.floors))
        self.assertEqual(session.free_moves(), tuple(move for move in known.moves() if costs[move] == 0))
        dear = [move for move, cost in costs.items() if cost and move is not None]
        self.assertLessEqual(len(dear), 0 if known.floor == known.start else 1)
        self.assertTrue(session.free_moves() or session.left() == 0)
        self.assertTrue(plain((session.at(), session.gone(), session.left(), session.costs(None), len(session))))
        self.assertTrue(plain(session.house_now()) and plain(tuple(session.waiting().items())))

    def check_home(self, session):
        way = session.way_home()
        self.assertTrue(plain_moves(way))
        twin = session.twin()
        gone, left = twin.gone(), twin.left()
        for move in way:
            self.assertEqual(twin.costs(move), 0)
            self.assertIn(move, twin.free_moves())
            twin.move(move)
        self.assertEqual((twin.gone() - gone, twin.left(), twin.waiting()), (left, 0, {}))
        self.assertEqual(twin.at(), session.house_now()[1])

    def test_deeds_of_all_kinds(self):
        chance = random.Random(53)
        for _ in range(150):
            floors = chance.choice((2, 2, 3, 3, 4, 5, 6, 9))
            start = chance.randrange(floors)
            session, known = Session(floors, start=start), Plain(floors, start)
            for _ in range(25):
                deed, thing = some_deed(chance, known, 6)
                told = getattr(session, deed)(thing)
                self.assertEqual(told, known.next if deed == "come" else None)
                known.do(deed, thing)
                self.check(session, known)
                self.check_home(session)

    def test_small_rings_wholly(self):
        for floors in (2, 3):
            errands = [(begin, steps) for begin in range(floors) for steps in range(1, 3 * floors + 1)]
            for start, place in itertools.product(range(floors), repeat=2):
                for two in itertools.combinations_with_replacement(errands[::floors - 1], 2):
                    session, known = Session(floors, start=start), Plain(floors, start)
                    steps = (place - start) % floors
                    for deed, thing in [("move", None)] * steps + [("come", errand) for errand in two]:
                        getattr(session, deed)(thing)
                        known.do(deed, thing)
                    self.check(session, known)

    def test_led_by_free_moves_till_all_is_done(self):
        chance = random.Random(59)
        for floors in (2, 5, 16):
            for place in range(0, floors, 3):
                session = forty(floors, 1)
                for _ in range(place):
                    session.move(None)
                left, gone = session.left(), 0
                while session.left():
                    move = chance.choice(session.free_moves())
                    gone += 1 if move is None else session.waiting()[move][1]
                    session.move(move)
                    self.assertEqual(session.left(), left - gone)
                self.assertEqual((gone, session.waiting(), session.at()), (left, {}, 1))


class Forty(unittest.TestCase):
    def test_forty_wait_anywhere(self):
        for floors in (2, 3, 16):
            for place in range(floors):
                session = forty(floors, floors - 1)
                for _ in range(place):
                    session.move(None)
                before = all_told(session)
                self.assertEqual(refusal(TooMany, session.come, (0, 1)).most, 40)
                self.assertEqual(all_told(session), before)
                house = session.house_now()
                need_house(house)
                # What is left leads from where the seat stands to the start: as the last floor of the house that
                # starts where the seat stands.
                self.assertEqual(session.left(), end_steps(started(house, session.at()), house[1]))
                ByTrying.check_home(self, session)
                for move in (None,) + tuple(n for n, errand in session.waiting().items() if errand[0] == session.at()):
                    twin = session.twin()
                    twin.move(move)
                    steps = 1 if move is None else house[2][move][1]
                    self.assertEqual(session.costs(move), steps + twin.left() - session.left())

    def test_room_again(self):
        session = forty(4, 0)
        session.off(7)
        self.assertEqual((session.come((0, 1)), len(session)), (40, 40))
        refusal(TooMany, session.come, (0, 1))
        session.move(40)
        self.assertEqual((session.come((0, 1)), list(session.waiting())), (41, [*range(7), *range(8, 40), 41]))


class Alike(unittest.TestCase):
    def test_other_deeds_to_the_same_place(self):
        one = led(3, 0, [("come", (0, 4)), ("move", 0)])
        other = led(3, 0, [("come", (1, 1)), ("off", 0), ("move", None)])
        self.assertTrue(one == other and not one != other)
        self.assertNotEqual(one.journal(), other.journal())
        self.assertNotEqual(one.gone(), other.gone())
        one.come((2, 2))
        self.assertTrue(one != other)
        other.come((2, 2))
        self.assertTrue(one == other)

    def test_what_makes_unlike(self):
        base = [("come", (0, 1)), ("come", (0, 1)), ("off", 0)]
        one = led(3, 0, base)
        for other in (
            led(4, 0, base), led(3, 1, base), led(3, 0, base + [("move", None)]), led(3, 0, base[:2]),
            led(3, 0, [("come", (0, 1))]), led(3, 0, [("come", (0, 1)), ("come", (0, 2)), ("off", 0)]),
            led(3, 0, [("come", (0, 1)), ("come", (1, 1)), ("off", 0)]), led(3, 0, []),
            led(3, 0, base[:2] + [("off", 1)]), led(3, 2, base + [("move", None)]),
        ):
            self.assertFalse(one == other)
            self.assertTrue(one != other)
        self.assertTrue(one == one)
        self.assertTrue(one == led(3, 0, base + [("move", None)] * 3))

    def test_other_things(self):
        session = Session(2)
        for thing in no_numbers() + [0, 2, Session, (2, 0, ()), session.house_now()]:
            self.assertFalse(session == thing)
            self.assertTrue(session != thing)

    def test_twins_go_on_apart(self):
        session = led(4, 1, [("come", (1, 2)), ("come", (3, 5)), ("move", None), ("off", 0)])
        twin = session.twin()
        self.assertIsNot(twin, session)
        self.assertIs(type(twin), Session)
        self.assertTrue(twin == session)
        self.assertEqual(all_told(twin), all_told(session))
        before = all_told(session)
        for deed, thing in (("come", (0, 1)), ("move", None), ("move", 1), ("off", 2), ("come", (0, 2))):
            told = getattr(twin, deed)(thing)
            self.assertEqual(all_told(session), before)
            if deed == "come":
                self.assertEqual(told, 2 if thing == (0, 1) else 3)
        again = twin.twin()
        before = all_told(again)
        twin.move(None)
        self.assertEqual(all_told(again), before)
        self.assertEqual(session.come((0, 1)), 2)

    def test_what_is_told_is_the_askers_own(self):
        session = forty(4, 0)
        before = all_told(session)
        told = session.waiting()
        told.clear()
        told[77] = (0, 1)
        session.waiting().pop(3)
        self.assertIsNot(session.waiting(), session.waiting())
        self.assertEqual(all_told(session), before)
        told = session.waiting()
        session.off(0)
        self.assertEqual(len(told), 40)

    def test_two_sessions_have_nothing_in_common(self):
        one, other = Session(2), Session(2)
        one.come((0, 1))
        one.move(0)
        self.assertEqual((len(other), other.journal(), other.at(), other.come((1, 1))), (0, (), 0, 0))


class Refused(unittest.TestCase):
    def refused(self, session, kind, call, thing):
        before = all_told(session)
        told = refusal(kind, call, thing)
        self.assertEqual(all_told(session), before)
        return told

    def test_rings(self):
        for thing in no_numbers() + [-HUGE, -2, -1, 0, 1, 17, HUGE]:
            self.assertIs(refusal(BadNumber, Session, thing).about, thing)
            for start in (None, 0, -1, "x"):
                self.assertIs(refusal(BadNumber, Session, thing, start=start).about, thing)
        for floors in (2, 16):
            for thing in no_numbers() + [-HUGE, -1, floors, floors + 1, HUGE]:
                self.assertIs(refusal(BadNumber, Session, floors, start=thing).about, thing)

    def test_errands(self):
        for session in (Session(4), led(4, 1, [("come", (0, 1)), ("move", None)]), forty(4, 0)):
            for thing in no_errands(4):
                self.refused(session, BadErrand, session.come, thing)

    def test_numbers_that_do_not_wait(self):
        session = led(4, 1, [("come", (1, 2)), ("come", (1, 2)), ("come", (3, 3)), ("move", 0)])
        for thing in no_numbers() + [0, 3, -1, HUGE, -HUGE]:
            told = self.refused(session, NoErrand, session.off, thing).number
            self.assertIs(told, thing)
        session.off(1)
        self.assertEqual(self.refused(session, NoErrand, session.off, 1).number, 1)

    def test_moves(self):
        session = led(4, 1, [("come", (1, 2)), ("come", (1, 2)), ("come", (3, 3)), ("come", (2, 1)), ("move", 0)])
        for call in (session.move, session.costs):
            for thing in no_numbers():
                if thing is not None:
                    self.refused(session, BadDeed, call, thing)
            for number in (0, 4, -1, HUGE, -HUGE):
                self.assertEqual(self.refused(session, NoErrand, call, number).number, number)
            for number in (1, 3):
                self.refused(session, Gone, call, number)
        self.assertEqual(session.costs(2), 0)
        self.assertIsNone(session.move(2))
        self.refused(session, NoErrand, session.move, 2)


class Agreeing(unittest.TestCase):
    def test_with_the_least_rounds(self):
        chance = random.Random(61)
        for _ in range(60):
            floors = chance.randint(2, 16)
            session = Session(floors, start=chance.randrange(floors))
            for _ in range(chance.randint(0, 40)):
                session.come((chance.randrange(floors), chance.randint(1, 3 * floors)))
            house = session.house_now()
            self.assertEqual(session.left(), floors * least_rounds(house))
            for _ in range(floors):
                session.move(None)
                self.assertEqual(session.left(), end_steps(started(house, session.at()), house[1]))


if __name__ == "__main__":
    unittest.main()
