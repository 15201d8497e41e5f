"""What tests find by going themselves, move by move, without the package."""

import itertools
import random

from tests.samples import loads_by_walking


def walk(house, ride):
    """Go a ride step by step; give its halts, its rounds, and the steps gone ahead of each errand."""
    floors, start, errands = house
    assert type(ride) is tuple, ride
    floor, gone, stands, ahead = start, 0, [start], {}
    for move in ride:
        if move is None:
            steps = 1
        else:
            assert type(move) is int and 0 <= move < len(errands) and move not in ahead, (house, ride)
            assert errands[move][0] == floor, (house, ride)
            ahead[move] = gone
            steps = errands[move][1]
        for _ in range(steps):
            gone += 1
            floor = 0 if floor == floors - 1 else floor + 1
        stands.append(floor)
    assert floor == start and len(ahead) == len(errands), (house, ride)
    assert gone % floors == 0
    return tuple(stands), gone // floors, tuple(ahead[number] for number in range(len(errands)))


class Tries:
    """All rides of so many rounds: in how many ways one can go on, found by trying each move.

    It knows nothing of bare steps: a ride is of so many rounds if it goes so many times the ring's steps.
    """

    def __init__(self, house, many):
        self.floors, self.start, self.errands = house
        self.house = house
        self.total = many * self.floors
        self.whole = (1 << len(self.errands)) - 1
        self.ways = [[0] * (self.whole + 1) for _ in range(self.total + 1)]
        for gone in range(self.total, -1, -1):
            for taken in range(self.whole + 1):
                self.ways[gone][taken] = self.counted(gone, taken)

    def counted(self, gone, taken):
        if gone == self.total and taken == self.whole:
            return 1
        return sum(self.ways[steps][done] for _, steps, done in self.moves(gone, taken))

    def moves(self, gone, taken):
        """Give the moves that don't go beyond the last step, with the steps gone and errands taken behind."""
        told = [(None, gone + 1, taken)] if gone < self.total else []
        for number, (begin, steps) in enumerate(self.errands):
            here = begin == (self.start + gone) % self.floors
            if here and not taken >> number & 1 and gone + steps <= self.total:
                told.append((number, gone + steps, taken | 1 << number))
        return told

    def how_many(self):
        return self.ways[0][0]

    def rides(self, limit=None):
        """Give the rides themselves as they rise, None ahead of numbers, so many at the most."""
        told = []
        stack = [((), 0, 0)]
        while stack and (limit is None or len(told) < limit):
            begun, gone, taken = stack.pop()
            if gone == self.total and taken == self.whole:
                told.append(begun)
            for move, steps, done in reversed(self.moves(gone, taken)):
                if self.ways[steps][done]:
                    stack.append((begun + (move,), steps, done))
        return told


def least_by_trying(house, most_load):
    """Give the least rounds, found by trying more and more of them."""
    many = 0
    while not Tries(house, many).how_many():
        many += 1
    assert many >= most_load
    return many


def every_errand(floors):
    return [(begin, steps) for begin in range(floors) for steps in range(1, 3 * floors + 1)]


def small_houses():
    """Give all houses of two floors with up to three errands, and of three with up to two, alike in order."""
    told = []
    for floors, most in ((2, 3), (3, 2)):
        for many in range(most + 1):
            for errands in itertools.combinations_with_replacement(every_errand(floors), many):
                told += [(floors, start, errands) for start in range(floors)]
    return told


def larger_houses(many=150, most_errands=6):
    """Give houses of 3 to 16 floors, with up to so many errands in any order, the same ones each time."""
    chance = random.Random(5)
    told = []
    for _ in range(many):
        floors = chance.randint(3, 16)
        longest = chance.choice((floors // 2, floors, 3 * floors))
        errands = [
            (chance.randrange(floors), chance.randint(1, longest)) for _ in range(chance.randint(0, most_errands))
        ]
        told.append((floors, chance.randrange(floors), tuple(errands)))
    return told


def parted_houses(many=150, most_errands=40):
    """Give houses whose errands go round in parts that don't touch each other, the same ones each time."""
    chance = random.Random(7)
    told = []
    while len(told) < many:
        floors = chance.randint(2, 16)
        order = list(range(floors))
        chance.shuffle(order)
        errands = []
        while order and chance.randrange(6):
            size = chance.randint(1, min(3, len(order)))
            part, order = order[:size], order[size:]
            errands += closed_way(chance, floors, part)
        chance.shuffle(errands)
        if len(errands) <= most_errands:
            told.append((floors, chance.randrange(floors), tuple(errands)))
    return told


def closed_way(chance, floors, part):
    """Give errands that lead from each floor of the part to the next one of it, and at last to the first."""
    errands = []
    for begin, end in zip(part, part[1:] + part[:1]):
        steps = (end - begin) % floors or floors
        errands.append((begin, steps + floors * chance.choice((0, 0, 0, 1)) if steps <= 2 * floors else steps))
    return errands


def first_bad(house, thing):
    """Give "good" of a ride, else what its refusal must tell, by going it with a list of what waits."""
    if type(thing) is not tuple:
        return None
    floors, start, errands = house
    waits = list(range(len(errands)))
    floor = start
    for number, move in enumerate(thing):
        here = [waiting for waiting in waits if errands[waiting][0] == floor]
        if move is None:
            floor = (floor + 1) % floors
        elif type(move) is int and move in here:
            waits.remove(move)
            floor = (floor + errands[move][1]) % floors
        else:
            return number
    return "good" if floor == start and not waits else len(thing)


def good_rides():
    """Give pairs of a house and a ride of it."""
    told = [
        ((2, 0, ()), ()), ((2, 1, ()), (None,) * 2), ((16, 15, ()), ()), ((16, 15, ()), (None,) * 9_984),
        ((2, 0, ((0, 6),) * 40), tuple(range(40))), ((2, 0, ((0, 6),) * 40), tuple(range(39, -1, -1))),
        ((16, 3, ((3, 48),) * 40), (None,) * 16 + tuple(range(40))),
        ((2, 0, ((0, 1), (1, 1))), (0, 1)), ((2, 0, ((0, 1), (1, 1))), (0, None, None, 1)),
        ((4, 1, ((1, 4), (0, 2))), (0, None, None, None, 1, None, None, None)),
    ]
    for house in small_houses()[::41] + larger_houses(60):
        most = max(loads_by_walking(house))
        for many in (most, most + 1, most + 2):
            told += [(house, ride) for ride in Tries(house, many).rides(limit=2)]
    return told


class Begun:
    """What is left by so many rounds behind first moves, kept as a list of arrows, each gone by its own name."""

    def __init__(self, house, many):
        self.floors, self.start, self.errands = house
        self.floor = self.start
        self.spare = [many - load for load in loads_by_walking(house)]
        self.waits = list(range(len(self.errands)))

    def there(self):
        told = [None] if self.spare[self.floor] else []
        return told + [number for number in self.waits if self.errands[number][0] == self.floor]

    def go(self, move):
        if move is None:
            self.spare[self.floor] -= 1
            self.floor = (self.floor + 1) % self.floors
        else:
            self.waits.remove(move)
            self.floor = (self.floor + self.errands[move][1]) % self.floors

    def arrows(self):
        told = [(step, (step + 1) % self.floors) for step in range(self.floors) for _ in range(self.spare[step])]
        for number in self.waits:
            begin, steps = self.errands[number]
            told.append((begin, (begin + steps) % self.floors))
        return told

    def lost(self):
        """Give the floors from which arrows go that never lead to the start, each found by going on from it."""
        arrows = set(self.arrows())
        told = []
        for floor in sorted({begin for begin, _ in arrows}):
            seen, new = set(), {floor}
            while new:
                seen |= new
                new = {end for begin, end in arrows if begin in seen} - seen
            if self.start not in seen:
                told.append(floor)
        return tuple(told)


def begun_by(house, begun, many):
    """Give what is left behind first moves that can be done."""
    left = Begun(house, many)
    for move in begun:
        assert move in left.there()
        left.go(move)
    return left


def first_bad_begun(house, thing, many):
    """Give "good" of first moves that can be done, else what their refusal must tell."""
    if type(thing) is not tuple:
        return None
    left = Begun(house, many)
    for number, move in enumerate(thing):
        if type(move) not in (int, type(None)) or move not in left.there():
            return number
        left.go(move)
    return "good"


def beginnings(house, many, limit):
    """Give first moves that can be done, of any number of moves, so many of them at the most."""
    told = [()]
    for begun in told:
        for move in begun_by(house, begun, many).there():
            if len(told) < limit:
                told.append(begun + (move,))
    return told


def loose_walk(house, loose):
    """Go a loose ride step by step; give its rounds and its settings down."""
    floors, start, errands = house
    assert type(loose) is tuple
    lying = {number: begin for number, (begin, _) in enumerate(errands)}
    due = {number: steps for number, (_, steps) in enumerate(errands)}
    floor, gone, told = start, 0, []
    for move in loose:
        if move is None:
            number, part = None, 1
        else:
            assert type(move) is tuple and len(move) == 2
            number, part = move
            assert type(number) is int and type(part) is int and part >= 1
            assert lying[number] == floor and due[number] >= part, (house, loose)
        for _ in range(part):
            gone += 1
            floor = 0 if floor == floors - 1 else floor + 1
        if number is not None:
            lying[number] = floor
            due[number] -= part
            if due[number]:
                told.append((number, floor))
    assert floor == start and not any(due.values()), (house, loose)
    assert gone % floors == 0
    return gone // floors, tuple(told)


def first_bad_loose(house, thing):
    """Give "good" of a loose ride, else what its refusal must tell."""
    if type(thing) is not tuple:
        return None
    floors, start, errands = house
    things = {number: list(errand) for number, errand in enumerate(errands)}
    floor = start
    for number, move in enumerate(thing):
        if move is None:
            floor = (floor + 1) % floors
            continue
        if type(move) is not tuple or [type(part) for part in move] != [int, int] or move[0] not in things:
            return number
        carried = things[move[0]]
        if carried[0] != floor or not 1 <= move[1] <= carried[1]:
            return number
        floor = (floor + move[1]) % floors
        carried[:] = [floor, carried[1] - move[1]]
    done = all(steps == 0 for _, steps in things.values())
    return "good" if floor == start and done else len(thing)


def fewest_by_trying(house, many):
    """Give the fewest settings down of loose rides of so many rounds, by trying all; None where there is none."""
    floors, start, errands = house
    total = many * floors
    known = {}

    def fewest(gone, due):
        """Give the fewest from here on; no number is infinite here, None stands for it."""
        if gone == total:
            return 0 if not any(due) else None
        if (gone, due) in known:
            return known[gone, due]
        floor = (start + gone) % floors
        told = [fewest(gone + 1, due)]
        for number, (begin, steps) in enumerate(errands):
            if (begin + steps - due[number]) % floors != floor:
                continue
            for part in range(1, min(due[number], total - gone) + 1):
                less = due[:number] + (due[number] - part,) + due[number + 1:]
                further = fewest(gone + part, less)
                told.append(further if further is None or not less[number] else further + 1)
        known[gone, due] = min([number for number in told if number is not None], default=None)
        return known[gone, due]

    return fewest(0, tuple(steps for _, steps in errands))
