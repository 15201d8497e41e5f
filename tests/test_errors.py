"""Tests of oneseat.errors: point 0 and the interface."""

import unittest

from oneseat import errors
from tests.samples import HUGE, nested, no_numbers

ABOVE = {
    "RideError": ValueError,
    "Cant": RuntimeError,
    "Lack": LookupError,
}
UNDER = {
    "RideError": (
        "BadHouse", "BadErrand", "BadNumber", "BadRide", "BadLoose", "BadPaper", "BadExchange", "BadRows", "BadText",
        "BadDeed",
    ),
    "Cant": ("TooFew", "TooMany", "Unlike", "NotOpen"),
    "Lack": ("NoErrand", "Gone"),
}
# Fields that must be given, and those that may be left out.
FIELDS = {
    "BadHouse": ((), ("place",)),
    "BadNumber": (("about",), ()),
    "BadRide": ((), ("number",)),
    "BadLoose": ((), ("number",)),
    "BadPaper": (("about",), ()),
    "BadText": (("row", "word"), ()),
    "TooFew": (("least",), ()),
    "TooMany": (("most",), ()),
    "Unlike": (("rounds",), ()),
    "NoErrand": (("number",), ()),
}
BY_TEXT = ("RideError", "Cant", "Lack", "BadErrand", "BadExchange", "BadRows", "BadDeed", "NotOpen", "Gone")


def kind_of(name):
    return getattr(errors, name)


class Kinds(unittest.TestCase):
    def test_the_three_stand_straight_under_pythons_own(self):
        for name, above in ABOVE.items():
            self.assertEqual(kind_of(name).__bases__, (above,), name)

    def test_each_kind_stands_straight_under_its_own(self):
        for above, names in UNDER.items():
            for name in names:
                self.assertEqual(kind_of(name).__bases__, (kind_of(above),), name)

    def test_each_kind_is_defined_here_under_its_name(self):
        for name in list(ABOVE) + [name for names in UNDER.values() for name in names]:
            self.assertEqual(kind_of(name).__module__, "oneseat.errors")
            self.assertEqual(kind_of(name).__name__, name)

    def test_each_kind_is_raised_and_caught_by_the_one_above(self):
        for above, names in UNDER.items():
            for name in names:
                needed, _ = FIELDS.get(name, ((), ()))
                with self.assertRaises(kind_of(above)):
                    raise kind_of(name)(*range(len(needed)))
                with self.assertRaises(ABOVE[above]):
                    raise kind_of(name)(*range(len(needed)))


class Fields(unittest.TestCase):
    def test_by_places(self):
        for name, (needed, free) in FIELDS.items():
            fields = needed + free
            error = kind_of(name)(*[f"told {field}" for field in fields])
            self.assertEqual([getattr(error, field) for field in fields], [f"told {field}" for field in fields], name)

    def test_by_names(self):
        for name, (needed, free) in FIELDS.items():
            fields = needed + free
            error = kind_of(name)(**{field: f"told {field}" for field in reversed(fields)})
            self.assertEqual([getattr(error, field) for field in fields], [f"told {field}" for field in fields], name)

    def test_left_out_ones_are_none(self):
        for name, (needed, free) in FIELDS.items():
            error = kind_of(name)(*range(len(needed)))
            for field in free:
                self.assertIsNone(getattr(error, field), name)

    def test_none_may_be_handed_in(self):
        for name, (needed, free) in FIELDS.items():
            error = kind_of(name)(*[None for _ in needed + free])
            for field in needed + free:
                self.assertIsNone(getattr(error, field), name)

    def test_needed_ones_may_not_be_left_out(self):
        for name, (needed, _) in FIELDS.items():
            for many in range(len(needed)):
                with self.assertRaises(TypeError, msg=name):
                    kind_of(name)(*range(many))

    def test_no_more_than_the_fields_are_taken(self):
        for name, (needed, free) in FIELDS.items():
            with self.assertRaises(TypeError, msg=name):
                kind_of(name)(*range(len(needed + free) + 1))

    def test_row_stands_ahead_of_word(self):
        error = errors.BadText(3, 7)
        self.assertEqual((error.row, error.word), (3, 7))

    def test_fields_hold_the_very_thing(self):
        things = no_numbers() + [HUGE, -HUGE, nested(30), list(range(10000)), "x" * 10000]
        for name, (needed, free) in FIELDS.items():
            for thing in things:
                error = kind_of(name)(*[thing for _ in needed + free])
                for field in needed + free:
                    self.assertIs(getattr(error, field), thing, name)
                self.assertIsInstance(str(error), str)

    def test_two_of_a_kind_have_fields_of_their_own(self):
        one, other = errors.BadNumber([1]), errors.BadNumber([2])
        self.assertEqual((one.about, other.about), ([1], [2]))


class Texts(unittest.TestCase):
    def test_those_without_fields_are_made_of_a_text(self):
        for name in BY_TEXT:
            self.assertEqual(str(kind_of(name)("some text")), "some text", name)


if __name__ == "__main__":
    unittest.main()
