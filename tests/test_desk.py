"""Tests of oneseat.desk: points 1 to 5, 9, 11, 12, 14 and 16."""

import inspect
import itertools
import random
import unittest

from oneseat import desk as module
from oneseat.desk import Desk
from oneseat.ends import best_ends, end_steps, good_starts
from oneseat.errors import BadErrand, BadNumber, Gone, NoErrand, TooFew, TooMany
from oneseat.houses import greatest, loads
from oneseat.least import least_rounds
from oneseat.loose import fewest_downs
from oneseat.lots import lots
from oneseat.ridetexts import ride_in
from oneseat.sessions import Session
from oneseat.trees import how_many_rides
from tests.samples import no_numbers
from tests.trying import walk

ASKING = (
    "at", "gone", "left", "waiting", "least", "loads", "lots", "downs", "rides", "ride", "starts", "ends", "free",
)
REFUSED = ("bad line", "no number", "no errand", "elsewhere", "too many")


class Plain:
    """A desk as the document tells it, by what the other files tell."""

    def __init__(self):
        self.session = Session(2)

    def do(self, line):
        name, *words = line.split(" ")
        numbers = [int(word) for word in words]
        try:
            if name == "ring":
                self.session = Session(numbers[0], start=numbers[1])
            elif name == "come":
                return str(self.session.come((numbers[0], numbers[1])))
            elif name == "off":
                self.session.off(numbers[0])
            elif name == "take":
                self.session.move(numbers[0])
            else:
                self.session.move(None)
        except (BadNumber, BadErrand):
            return "no number"
        except NoErrand:
            return "no errand"
        except Gone:
            return "elsewhere"
        except TooMany:
            return "too many"
        return "done"

    def told(self, name):
        """Give the answer to an asking line, None where it isn't promised which."""
        session, house = self.session, self.session.house_now()
        if name in ("at", "gone", "left"):
            return str(getattr(session, name)())
        if name == "waiting":
            rows = [f"{number} {errand[0]} {errand[1]}" for number, errand in session.waiting().items()]
            return ", ".join(rows) or "none"
        if name == "downs":
            return self.downs(house)
        if name == "lots":
            return ", ".join(" ".join(map(str, lot)) for lot in lots(house))
        if name == "ends":
            return f"{best_ends(house)[0]} : {' '.join(map(str, best_ends(house)[1]))}"
        if name == "free":
            return " ".join("bare" if move is None else str(move) for move in session.free_moves()) or "none"
        rows = {"least": lambda: [least_rounds(house)], "loads": lambda: loads(house),
                "rides": lambda: [how_many_rides(house)], "starts": lambda: good_starts(house)}
        return " ".join(map(str, rows[name]())) or "none"

    def downs(self, house):
        try:
            return str(fewest_downs(house, rounds=greatest(house)))
        except TooFew:
            return "none"


def said_all(desk, lines):
    return [desk.said(line) for line in lines]


def all_told(desk):
    return said_all(desk, ASKING)


class Interface(unittest.TestCase):
    def test_the_class(self):
        self.assertEqual(Desk.__module__, module.__name__)
        self.assertEqual(str(inspect.signature(Desk)), "()")
        self.assertEqual(str(inspect.signature(vars(Desk)["said"])), "(self, line)")
        self.assertIn("__len__", vars(Desk))

    def test_at_first(self):
        desk = Desk()
        told = ["0", "0", "0", "none", "0", "0 0", "0", "0", "1", "-", "0 1", "0 : 0", "none"]
        self.assertEqual(all_told(desk), told)
        self.assertEqual(desk.said(line="at"), "0")
        self.assertEqual(len(desk), len(ASKING) + 1)
        self.assertEqual(len(Desk()), 0)


class ByHand(unittest.TestCase):
    def test_two_lots(self):
        desk = Desk()
        self.assertEqual(said_all(desk, ("ring 4 1", "come 1 4", "come 0 2")), ["done", "0", "1"])
        told = said_all(desk, [name for name in ASKING if name != "ride"])
        self.assertEqual(told, ["1", "0", "12", "0 1 4, 1 0 2", "3", "2 2 1 1", "0 2 3, 1", "1", "2", "none", "9 : 2",
                                "bare 0"])
        self.assertIn(desk.said("ride"), ("b3 e1 b3 e0", "e0 b3 e1 b3"))
        self.assertEqual(said_all(desk, ("take 1", "take 2", "off 2", "bare", "at", "gone", "left", "free")),
                         ["elsewhere", "no errand", "no errand", "done", "2", "1", "11", "bare"])
        self.assertEqual(said_all(desk, ("off 0", "waiting", "take 0", "bare", "bare", "take 1", "free", "left")),
                         ["done", "1 0 2", "no errand", "done", "done", "done", "bare", "3"])
        self.assertEqual(said_all(desk, ("come 3 1", "waiting", "off 1", "come 9 1")),
                         ["2", "2 3 1", "no errand", "no number"])

    def test_a_start_that_is_lain_over(self):
        desk = Desk()
        said_all(desk, ("ring 4 0", "come 1 4"))
        self.assertEqual(said_all(desk, ("downs", "lots", "starts", "least", "rides", "ride")),
                         ["none", "0, 1", "1", "2", "1", "b1 e0 b3"])

    def test_no_floor_as_start(self):
        desk = Desk()
        self.assertEqual(said_all(desk, ("come 0 2", "come 1 2", "starts", "lots", "downs", "least")),
                         ["0", "1", "none", "0, 1", "1", "3"])

    def test_a_new_ring(self):
        desk = Desk()
        said_all(desk, ("come 0 1", "take 0", "come 1 1"))
        self.assertEqual(said_all(desk, ("ring 16 15", "at", "gone", "waiting", "loads", "come 15 48")),
                         ["done", "15", "0", "none", " ".join("0" * 16), "0"])
        self.assertEqual(len(desk), 9)

    def test_rings_that_are_none(self):
        desk = Desk()
        said_all(desk, ("ring 5 3", "come 0 1"))
        before = all_told(desk)
        far = "9" * 20
        for line in ("ring 1 0", "ring 0 0", "ring 17 0", "ring 4 4", "ring 16 16", f"ring {far} 0", "ring 2 2"):
            self.assertEqual(desk.said(line), "no number")
            self.assertEqual(all_told(desk), before)


class GoneThrough(unittest.TestCase):
    def check(self, desk, known):
        for name in ASKING:
            told = desk.said(name)
            self.assertIs(type(told), str)
            if name == "ride":
                self.check_ride(known.session, told)
            else:
                self.assertEqual(told, known.told(name), name)

    def check_ride(self, session, told):
        """A ride's text calls errands as they wait: read, it's a ride with the numbers put back."""
        names = {f"e{number}": f"e{at}" for at, number in enumerate(session.waiting())}
        ride = ride_in(" ".join(names.get(word, word) for word in told.split(" ")))
        house = session.house_now()
        self.assertEqual(walk(house, ride)[1], least_rounds(house))

    def test_small_rings_wholly(self):
        lines = ("come 0 1", "come 1 2", "come 1 3", "off 0", "off 1", "bare", "take 0", "take 1", "take 2")
        for ring in ("ring 2 0", "ring 2 1"):
            for many in range(4):
                for row in itertools.product(lines, repeat=many):
                    desk, known = Desk(), Plain()
                    for line in (ring,) + row:
                        self.assertEqual(desk.said(line), known.do(line), (row, line))
                    self.check(desk, known)
                    self.assertEqual(len(desk), many + 1 + len(ASKING))

    def test_many_lines(self):
        chance = random.Random(73)
        for _ in range(40):
            desk, known = Desk(), Plain()
            floors = chance.randint(2, 16)
            self.assertEqual(desk.said(f"ring {floors} {floors - 1}"), known.do(f"ring {floors} {floors - 1}"))
            for _ in range(60):
                word = chance.choice(("come", "come", "take", "take", "off", "bare"))
                if word == "come":
                    line = f"come {chance.randint(0, floors)} {chance.randint(0, 3 * floors + 1)}"
                else:
                    line = word if word == "bare" else f"{word} {chance.randint(0, 30)}"
                self.assertEqual(desk.said(line), known.do(line), line)
            self.check(desk, known)

    def test_led_by_free_moves_till_all_is_done(self):
        desk = Desk()
        desk.said("ring 6 2")
        for number in range(30):
            desk.said(f"come {number % 5} {1 + 5 * number % 18}")
        for _ in range(4):
            desk.said("bare")
        left, gone = int(desk.said("left")), int(desk.said("gone"))
        while desk.said("left") != "0":
            move = desk.said("free").split(" ")[-1]
            self.assertEqual(desk.said("bare" if move == "bare" else f"take {move}"), "done")
        self.assertEqual(said_all(desk, ("waiting", "at", "gone", "free")), ["none", "2", str(gone + left), "none"])


class ManyErrands(unittest.TestCase):
    def test_forty_and_one_more(self):
        desk = Desk()
        desk.said("ring 3 0")
        self.assertEqual([desk.said("come 1 2") for _ in range(40)], [str(number) for number in range(40)])
        before = all_told(desk)
        self.assertEqual(said_all(desk, ("come 1 2", "come 3 1", "come 0 0", "come 0 10")),
                         ["too many", "no number", "no number", "no number"])
        self.assertEqual(all_told(desk), before)
        desk.said("bare")
        known = Plain()
        known.session = Session(3)
        for _ in range(40):
            known.session.come((1, 2))
        known.session.move(None)
        GoneThrough.check(self, desk, known)
        self.assertEqual(desk.said("ends"), f"{best_ends(known.session.house_now())[0]} : 0")

    check_ride = GoneThrough.check_ride

    def test_numbers_beyond_39(self):
        desk, known = Desk(), Plain()
        for _ in range(100):
            for line in ("come 0 2", "come 1 1"):
                self.assertEqual(desk.said(line), known.do(line))
            number = int(desk.said("waiting").split(" ")[0])
            self.assertEqual(desk.said(f"off {number}"), known.do(f"off {number}"))
            if len(known.session) > 30:
                number = list(known.session.waiting())[0]
                self.assertEqual(desk.said(f"off {number}"), known.do(f"off {number}"))
        self.assertGreater(min(known.session.waiting()), 39)
        GoneThrough.check(self, desk, known)
        words = desk.said("ride").split(" ")
        self.assertEqual({word for word in words if word[0] == "e"}, {f"e{n}" for n in known.session.waiting()})
        last = max(known.session.waiting())
        self.assertEqual(desk.said(f"off {last}"), "done")


class Lines(unittest.TestCase):
    def test_bad_lines(self):
        desk = Desk()
        said_all(desk, ("ring 4 1", "come 1 4", "come 0 2"))
        before = all_told(desk)
        count = len(desk)
        lines = ["", " ", "\n", "x", "ring", "ring 4", "ring 4 1 2", "come", "come 1", "come 1 2 3", "off", "off 0 1",
                 "take", "take 0 0", "bare 1", "bare bare", "RING 4 1", "ring,4,1", "ring\t4 1", "ring 4 1\n", "\nat"]
        lines += [f"{name}{more}" for name in ASKING + ("bare",) for more in (" ", "\n", " 0", " at", "s ", "\t", " x")]
        lines += [f" {name}" for name in ASKING + ("bare", "off 0", "come 0 1")]
        lines += [f"{ahead} {word}" for ahead in ("off", "take", "come 1", "ring 4", "come") for word in (
            "", "x", "-1", "+1", "00", "01", "1.0", "1_0", "0x1", " 1", "1 ", "9" * 21, "1" * 5000, "0" * 21, "none",
            "\u0661", "\u00b2", "1\n", "\t1", "(1)", "bare", "e1",
        )]
        lines += [thing for thing in no_numbers() if not isinstance(thing, str)]
        lines += [0, 1, b"at", ["at"], ("at",), {"at": 1}, "a" * 20_000, "at\x00", "at;gone", "at gone"]
        for line in lines:
            self.assertEqual(desk.said(line), "bad line", repr(line)[:60])
            count += 1
            self.assertEqual(len(desk), count)
        self.assertEqual(all_told(desk), before)

    def test_numbers_of_twenty_figures(self):
        desk = Desk()
        for word in ("1" * 20, "9" * 20, "10000000000000000000"):
            self.assertEqual(said_all(desk, (f"off {word}", f"take {word}", f"come {word} 1", f"come 0 {word}",
                                             f"ring {word} 0", f"ring 2 {word}")),
                             ["no errand"] * 2 + ["no number"] * 4)
            self.assertEqual(said_all(desk, (f"off {word}0", f"take {word}0", f"come {word}0 1", f"come 0 {word}0",
                                             f"ring {word}0 0", f"ring 2 {word}0")), ["bad line"] * 6)

    def test_bad_lines_ahead_of_bad_numbers(self):
        desk = Desk()
        self.assertEqual(said_all(desk, ("come 9 01", "come 01 9", "ring 99 x", "off 7 ", "take 1" + "0" * 20)),
                         ["bad line"] * 5)

    def test_refused_lines_change_nothing_but_the_length(self):
        desk = Desk()
        said_all(desk, ("ring 3 1", "come 1 3", "come 2 4", "come 1 3", "off 2", "bare"))
        before = all_told(desk)
        count = len(desk)
        for line, told in (
            ("take 0", "elsewhere"), ("take 2", "no errand"), ("take 3", "no errand"), ("off 2", "no errand"),
            ("off 3", "no errand"), ("come 3 1", "no number"), ("come 0 0", "no number"), ("come 0 10", "no number"),
            ("ring 3 3", "no number"), ("ring 1 0", "no number"), ("nothing", "bad line"), (None, "bad line"),
        ):
            self.assertEqual(desk.said(line), told)
            count += 1
            self.assertEqual(len(desk), count)
            self.assertEqual(all_told(desk), before)
            count += len(ASKING)
        self.assertEqual(desk.said("come 0 1"), "3")

    def test_two_desks_have_nothing_in_common(self):
        one, other = Desk(), Desk()
        said_all(one, ("ring 5 2", "come 2 1", "bare"))
        self.assertEqual(all_told(other), all_told(Desk()))
        self.assertEqual((len(one), len(other)), (3, len(ASKING)))
        self.assertEqual(said_all(other, ("come 0 1", "at")), ["0", "0"])
        self.assertEqual(said_all(one, ("waiting", "at")), ["0 2 1", "3"])


class Agreeing(unittest.TestCase):
    def test_ends_and_left(self):
        chance = random.Random(79)
        for _ in range(25):
            desk, floors = Desk(), chance.randint(2, 16)
            start = chance.randrange(floors)
            desk.said(f"ring {floors} {start}")
            errands = [(chance.randrange(floors), chance.randint(1, 3 * floors)) for _ in range(chance.randint(0, 40))]
            for begin, steps in errands:
                desk.said(f"come {begin} {steps}")
            house = (floors, start, tuple(errands))
            self.assertEqual(int(desk.said("left")), floors * int(desk.said("least")))
            steps, best = desk.said("ends").split(" : ")
            for floor in range(floors):
                told = end_steps(house, floor)
                self.assertEqual(told == int(steps), str(floor) in best.split(" "))


if __name__ == "__main__":
    unittest.main()
