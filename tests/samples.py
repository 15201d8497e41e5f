"""What several tests share: things that are wrong everywhere, and how a refusal is caught."""

import inspect

from oneseat.errors import BadHouse, BadNumber, TooFew

# The document lets numbers have up to 1,000 figures.
HUGE = 10 ** 999

EMPTY_2 = (2, 0, ())
EMPTY_16 = (16, 15, ())
# Once round, more than once round, thrice round, alike ones, and one over the last step.
MIXED = (5, 3, ((0, 5), (4, 2), (2, 13), (2, 13), (1, 15), (4, 1)))
FULL = (16, 7, tuple((number % 16, number + 1) for number in range(40)))
# The document's own house of T6, where two lots come of it; and one whose start is lain over alone.
TWO_LOTS = (4, 1, ((1, 4), (0, 2)))
LAIN_OVER = (4, 0, ((1, 4),))
# By GREATEST each floor is a lot of its own; the greatest load that there can be.
SIXTEEN_LOTS = (16, 3, tuple((floor, 16) for floor in range(16)))
HEAVIEST = (16, 5, tuple((number % 16, 48) for number in range(40)))


def nested(deep):
    """Give tuples and lists within each other, so many deep."""
    thing = ()
    for level in range(deep - 1):
        thing = (thing,) if level & 1 else [thing]
    return thing


def no_numbers():
    """Give things of every kind that are no whole numbers, made anew."""
    return [
        None, True, False, "", "0", "floors", "1\n", b"", b"1", (), (0,), (0, 1), (2, 0, ()),
        [], [0], [0, 1], [2, 0, []], {}, {0: 1}, {"floors": 2}, set(), {1, 2}, frozenset(),
        nested(30), int, len, object(),
    ]


def bad_rounds():
    """Give things of every kind that are neither None nor a number of rounds, made anew."""
    return [thing for thing in no_numbers() if thing is not None] + [-1, -HUGE, 131, HUGE]


def no_errands(floors):
    """Give things of every kind that are no errands of so many floors, made anew."""
    told = [thing for thing in no_numbers() if thing != (0, 1)]
    told = told + [0, 1, -1, HUGE, -HUGE, "01", b"01", {0: 1, 1: 1}, {0, 1}]
    told = told + [(0, 1, 1), (0, 1, None), ((0, 1),), ((0, 1), (0, 1)), [(0, 1)], (0, (1,)), ([0], 1)]
    told = told + [(-1, 1), (floors, 1), (HUGE, 1), (-HUGE, 1)]
    told = told + [(0, 0), (0, -1), (0, 3 * floors + 1), (floors - 1, 3 * floors + 1), (0, HUGE), (0, -HUGE)]
    told = told + [(thing, 1) for thing in no_numbers()] + [(0, thing) for thing in no_numbers()]
    return told + [(True, True), (False, True), (None, None), (floors, 0)]


def bad_houses():
    """Give pairs of a thing that is no house and the place it is refused with, made anew."""
    told = [(thing, None) for thing in no_numbers() if thing != (2, 0, ())]
    told = told + [(thing, None) for thing in (0, 1, 2, HUGE, "abc", b"abc", {0, 1, 2}, {2: 0, 0: 1, 1: 2})]
    told = told + [((2,), None), ((2, 0), None), ((2, 0, (), ()), None), ((2, 0, (), None), None)]
    told = told + [([2, 0, ()], None), (((2, 0, ()),), None), (((2, 0, ()),) * 2, None)]
    floors = no_numbers() + [-HUGE, -2, -1, 0, 1, 17, 18, HUGE]
    told = told + [((thing, 0, ()), "floors") for thing in floors]
    told = told + [((thing, None, None), "floors") for thing in floors]
    starts = no_numbers() + [-HUGE, -1, 4, 5, HUGE]
    told = told + [((4, thing, ()), "start") for thing in starts]
    told = told + [((4, thing, [(9, 9)]), "start") for thing in starts]
    told = told + [((2, 2, ()), "start"), ((16, 16, ()), "start")]
    lists = [thing for thing in no_numbers() if not isinstance(thing, tuple)]
    lists = lists + [0, 4, HUGE, [(0, 1)], [[0, 1]], {0: (0, 1)}, ((0, 1),) * 41, (None,) * 41, ((0, 1),) * 9000]
    told = told + [((4, 0, thing), "errands") for thing in lists]
    told = told + [((4, 0, (thing,)), 0) for thing in no_errands(4)]
    told = told + [((4, 0, ((0, 1), (3, 12), thing)), 2) for thing in no_errands(4)]
    told = told + [((4, 0, ((0, 1), thing, (0, 0), thing)), 1) for thing in no_errands(4)]
    told = told + [((4, 0, ((0, 1),) * 39 + (thing,)), 39) for thing in no_errands(4)]
    told = told + [((4, 0, (0, 1)), 0), ((4, 0, (None,) * 40), 0)]
    return told + [((2, 0, ((2, 1),)), 0), ((2, 0, ((1, 6), (1, 7))), 1)]


def refusal(kind, call, *things, **named):
    """Give the refusal of just that kind by the call with the things, which it leaves as they were."""
    before = repr((things, named))
    try:
        answer = call(*things, **named)
    except kind as error:
        if error.__class__ is not kind:
            raise AssertionError(f"{error.__class__} instead of {kind}") from error
        if repr((things, named)) != before:
            raise AssertionError(f"changed: {before} to {(things, named)!r}") from error
        return error
    raise AssertionError(f"{answer!r} instead of {kind} of {before}")


def sample_houses():
    """Give houses of all sizes of ring, with errands of all lengths by some."""
    told = [EMPTY_2, (2, 1, ()), EMPTY_16, (16, 0, ()), MIXED, FULL]
    for floors in range(2, 17):
        every = [(begin, steps) for begin in (0, floors - 1) for steps in range(1, 3 * floors + 1)]
        told = told + [(floors, floors - 1, tuple(every[at:at + 40])) for at in range(0, len(every), 40)]
        told.append((floors, 0, ((0, 1), (floors - 1, 3 * floors), (floors - 1, 3 * floors))))
    return told


def walked(floors, errand):
    """Go an errand step by step; give how often it lies over each step, and its end."""
    floor, steps = errand
    often = [0] * floors
    for _ in range(steps):
        often[floor] += 1
        floor = 0 if floor == floors - 1 else floor + 1
    return often, floor


def plain(thing):
    """Tell whether the thing is tuples and ints throughout, and nothing else."""
    return type(thing) is int or type(thing) is tuple and all(plain(part) for part in thing)


def plain_moves(thing):
    """Tell whether the thing is a tuple of None and ints, and nothing else."""
    return type(thing) is tuple and all(move is None or type(move) is int for move in thing)


def check_interface(test, module, signatures):
    """Check that the module defines each function itself, with just these arguments."""
    for name, signature in signatures.items():
        call = getattr(module, name)
        test.assertEqual(str(inspect.signature(call)), signature, name)
        test.assertEqual(call.__module__, module.__name__, name)


def check_rounds(test, call, *others):
    """Check that house and rounds are refused ahead of all else, whatever the others are."""
    for thing, place in bad_houses():
        for rounds in ({}, {"rounds": None}, {"rounds": 131}, {"rounds": -1}, {"rounds": 0}):
            test.assertEqual(refusal(BadHouse, call, thing, *others, **rounds).place, place)
    for house in (EMPTY_2, EMPTY_16, MIXED, FULL, TWO_LOTS, LAIN_OVER, SIXTEEN_LOTS, HEAVIEST):
        for thing in bad_rounds():
            test.assertIs(refusal(BadNumber, call, house, *others, rounds=thing).about, thing)
        most = max(loads_by_walking(house))
        for many in range(max(0, most - 3), most):
            test.assertEqual(refusal(TooFew, call, house, *others, rounds=many).least, most)
        if most:
            test.assertEqual(refusal(TooFew, call, house, *others, rounds=0).least, most)


def loads_by_walking(house):
    """Give the load of each step, found by going each errand step by step."""
    rows = [walked(house[0], errand)[0] for errand in house[2]]
    return [sum(row[step] for row in rows) for step in range(house[0])]


def no_moves():
    """Give things of every kind that are no moves, made anew."""
    return [thing for thing in no_numbers() if thing is not None] + [-1, 40, 41, HUGE, -HUGE]


def spoilt_rides(house, ride):
    """Give things that are hardly a ride any more: with a move more, one less, another one, in another order."""
    told = [list(ride), {number: move for number, move in enumerate(ride)}, repr(ride), (ride,), ride + (ride,)]
    many = len(ride)
    for at in sorted({0, 1, many // 2, many - 1, many} & set(range(many + 1))):
        for thing in no_moves() + [None] + list(range(len(house[2]) + 1)):
            told.append(ride[:at] + (thing,) + ride[at:])
            told.append(ride[:at] + (thing,) + ride[at + 1:])
        told.append(ride[:at] + ride[at + 1:])
        told.append(ride[:at])
        told.append(ride[at:] + ride[:at])
    told += [ride + ride, ride[::-1], ride + (None,), ride + (None,) * house[0], (None,) * house[0] + ride]
    return told
