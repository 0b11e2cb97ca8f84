"""Point [2] and the interface: the errors, their classes and their fields."""

import unittest

from typedahead import errors

PLACE = ("main", 3, 7)

# Each error with the class of Python's own it stands under, and its fields with a thing for each.
ERRORS = (
    ("BadHouse", ValueError, (("thing", [("a", "let a = 1"), ["b"], None, True, 5]),)),
    ("BadName", ValueError, (("name", "let"),)),
    ("BadLine", ValueError, (("line", 12),)),
    ("NoEdit", ValueError, (("thing", [0, 1, ["x"]]),)),
    ("TooLong", ValueError, ()),
    ("Clash", ValueError, (("place", PLACE),)),
    ("NoName", LookupError, (("place", PLACE),)),
    ("NoFile", LookupError, (("file", "other"),)),
    ("NoPiece", LookupError, (("file", "main"), ("row", 4))),
    ("NoMend", IndexError, (("number", 2),)),
    ("NoMake", IndexError, (("number", 3),)),
    ("NoSpot", IndexError, (("at", -1),)),
    ("NoMark", IndexError, (("number", 0),)),
    ("NoAsk", IndexError, (("number", 60),)),
    ("Tangled", RuntimeError, (("number", 0),)),
    ("NoDeed", RuntimeError, ()),
)


def error_class(name):
    return getattr(errors, name)


class TestErrors(unittest.TestCase):
    def test_defined_in_their_file(self):
        for name, _, _ in ERRORS:
            self.assertEqual(error_class(name).__module__, errors.__name__)
            self.assertEqual(error_class(name).__name__, name)

    def test_straight_under_pythons_own(self):
        for name, above, _ in ERRORS:
            self.assertEqual(error_class(name).__bases__, (above,), name)

    def test_under_no_other_error_of_the_program(self):
        for name, _, _ in ERRORS:
            for other, _, _ in ERRORS:
                self.assertEqual(issubclass(error_class(name), error_class(other)), name == other)

    def test_fields_by_place(self):
        for name, _, fields in ERRORS:
            made = error_class(name)(*[thing for _, thing in fields])
            for field, thing in fields:
                self.assertIs(getattr(made, field), thing, name)

    def test_fields_by_name(self):
        for name, _, fields in ERRORS:
            made = error_class(name)(**dict(fields))
            for field, thing in fields:
                self.assertIs(getattr(made, field), thing, name)
            made = error_class(name)(**dict(reversed(fields)))
            for field, thing in fields:
                self.assertIs(getattr(made, field), thing, name)

    def test_raised_and_caught(self):
        for name, above, fields in ERRORS:
            for caught in (error_class(name), above):
                with self.assertRaises(caught) as told:
                    raise error_class(name)(**dict(fields))
                self.assertIs(type(told.exception), error_class(name))
                for field, thing in fields:
                    self.assertEqual(getattr(told.exception, field), thing)

    def test_caught_by_no_other_class(self):
        for name, above, fields in ERRORS:
            others = [error_class(other) for other, _, _ in ERRORS if other != name]
            others += [own for own in (ValueError, LookupError, IndexError, KeyError, RuntimeError)
                       if not issubclass(above, own)]
            self.assertNotIsInstance(error_class(name)(**dict(fields)), tuple(others))

    def test_fields_are_wanted(self):
        for name, _, fields in ERRORS:
            if fields:
                with self.assertRaises(TypeError):
                    error_class(name)()
                with self.assertRaises(TypeError):
                    error_class(name)(*[0] * (len(fields) + 1))

    def test_place_is_a_tuple_also_of_a_list(self):
        for name in ("Clash", "NoName"):
            handed = ["main", 3, 7]
            for made in (error_class(name)(handed), error_class(name)(place=handed)):
                self.assertIs(type(made.place), tuple)
                self.assertEqual(made.place, PLACE)
            self.assertEqual(handed, ["main", 3, 7])

    def test_changed_list_changes_no_place(self):
        for name in ("Clash", "NoName"):
            handed = ["main", 3, 7]
            made = error_class(name)(handed)
            handed[1] = 5
            self.assertEqual(made.place, PLACE)

    def test_thing_is_what_was_handed_in(self):
        for name in ("BadHouse", "NoEdit"):
            for thing in ([1, [2]], (1, (2,)), None, True, 0, "a", "", []):
                made = error_class(name)(thing)
                self.assertIs(made.thing, thing)
                self.assertIs(type(made.thing), type(thing))

    def test_two_of_one_class_are_two(self):
        first, second = errors.NoMend(1), errors.NoMend(2)
        self.assertEqual((first.number, second.number), (1, 2))


if __name__ == "__main__":
    unittest.main()
