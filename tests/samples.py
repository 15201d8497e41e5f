"""What several tests share: things that are wrong everywhere, and how a refusal is caught."""

# The document lets numbers have up to 1,000 figures.
HUGE = 10 ** 999


def nested(deep):
    """Give tuples and lists within each other, so many deep."""
    thing = ()
    for level in range(deep - 1):
        thing = (thing,) if level & 1 else [thing]
    return thing


def no_numbers():
    """Give things of every kind that are no whole numbers, made anew."""
    return [
        None, True, False, "", "0", "floors", "1\n", b"", b"1", (), (0,), (0, 1), (2, 0, ()),
        [], [0], [0, 1], [2, 0, []], {}, {0: 1}, {"floors": 2}, set(), {1, 2}, frozenset(),
        nested(30), int, len, object(),
    ]


def no_errands(floors):
    """Give things of every kind that are no errands of so many floors, made anew."""
    told = [thing for thing in no_numbers() if thing != (0, 1)]
    told = told + [0, 1, -1, HUGE, -HUGE, "01", b"01", {0: 1, 1: 1}, {0, 1}]
    told = told + [(0, 1, 1), (0, 1, None), ((0, 1),), ((0, 1), (0, 1)), [(0, 1)], (0, (1,)), ([0], 1)]
    told = told + [(-1, 1), (floors, 1), (HUGE, 1), (-HUGE, 1)]
    told = told + [(0, 0), (0, -1), (0, 3 * floors + 1), (floors - 1, 3 * floors + 1), (0, HUGE), (0, -HUGE)]
    told = told + [(thing, 1) for thing in no_numbers()] + [(0, thing) for thing in no_numbers()]
    return told + [(True, True), (False, True), (None, None), (floors, 0)]


def bad_houses():
    """Give pairs of a thing that is no house and the place it is refused with, made anew."""
    told = [(thing, None) for thing in no_numbers() if thing != (2, 0, ())]
    told = told + [(thing, None) for thing in (0, 1, 2, HUGE, "abc", b"abc", {0, 1, 2}, {2: 0, 0: 1, 1: 2})]
    told = told + [((2,), None), ((2, 0), None), ((2, 0, (), ()), None), ((2, 0, (), None), None)]
    told = told + [([2, 0, ()], None), (((2, 0, ()),), None), (((2, 0, ()),) * 2, None)]
    floors = no_numbers() + [-HUGE, -2, -1, 0, 1, 17, 18, HUGE]
    told = told + [((thing, 0, ()), "floors") for thing in floors]
    told = told + [((thing, None, None), "floors") for thing in floors]
    starts = no_numbers() + [-HUGE, -1, 4, 5, HUGE]
    told = told + [((4, thing, ()), "start") for thing in starts]
    told = told + [((4, thing, [(9, 9)]), "start") for thing in starts]
    told = told + [((2, 2, ()), "start"), ((16, 16, ()), "start")]
    lists = [thing for thing in no_numbers() if not isinstance(thing, tuple)]
    lists = lists + [0, 4, HUGE, [(0, 1)], [[0, 1]], {0: (0, 1)}, ((0, 1),) * 41, (None,) * 41, ((0, 1),) * 9000]
    told = told + [((4, 0, thing), "errands") for thing in lists]
    told = told + [((4, 0, (thing,)), 0) for thing in no_errands(4)]
    told = told + [((4, 0, ((0, 1), (3, 12), thing)), 2) for thing in no_errands(4)]
    told = told + [((4, 0, ((0, 1), thing, (0, 0), thing)), 1) for thing in no_errands(4)]
    told = told + [((4, 0, ((0, 1),) * 39 + (thing,)), 39) for thing in no_errands(4)]
    told = told + [((4, 0, (0, 1)), 0), ((4, 0, (None,) * 40), 0)]
    return told + [((2, 0, ((2, 1),)), 0), ((2, 0, ((1, 6), (1, 7))), 1)]


def refusal(kind, call, *things, **named):
    """Give the refusal of just that kind by the call with the things, which it leaves as they were."""
    before = repr((things, named))
    try:
        answer = call(*things, **named)
    except kind as error:
        if error.__class__ is not kind:
            raise AssertionError(f"{error.__class__} instead of {kind}") from error
        if repr((things, named)) != before:
            raise AssertionError(f"changed: {before} to {(things, named)!r}") from error
        return error
    raise AssertionError(f"{answer!r} instead of {kind} of {before}")
