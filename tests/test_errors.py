"""Interface, heardalike/errors.py: the refusals and their fields."""

import unittest

from heardalike import errors
from tests.things import ANYTHING

FIELDS = {
    "NoDeed": (), "Forged": ("stamp",), "Stranger": ("who",), "NoHolder": ("stamp",), "Unknown": ("stamp",),
    "NoPath": ("path", "step"), "NoPlace": ("place",), "NoWhat": (), "Ring": ("thing",), "Settled": ("stamp",),
    "Nothing": (), "NotKnown": ("upto",), "NotClean": ("upto",), "Dropped": ("upto",), "NoRow": (),
}


class ErrorClasses(unittest.TestCase):
    def test_heard_error_stands_straight_under_value_error(self):
        self.assertEqual(errors.HeardError.__bases__, (ValueError,))

    def test_there_are_fifteen_others(self):
        told = [name for name, thing in vars(errors).items() if isinstance(thing, type)]
        self.assertEqual(sorted(told), sorted(["HeardError", *FIELDS]))
        self.assertEqual(len(FIELDS), 15)

    def test_each_stands_straight_under_heard_error(self):
        for name in FIELDS:
            self.assertEqual(getattr(errors, name).__bases__, (errors.HeardError,), name)

    def test_none_stands_under_another_one(self):
        for name in FIELDS:
            for other in FIELDS:
                under = issubclass(getattr(errors, name), getattr(errors, other))
                self.assertEqual(under, name == other, (name, other))

    def test_each_is_defined_in_its_file(self):
        for name in ["HeardError", *FIELDS]:
            self.assertEqual(getattr(errors, name).__module__, "heardalike.errors")
            self.assertEqual(getattr(errors, name).__name__, name)


class ErrorFields(unittest.TestCase):
    def test_those_without_fields(self):
        for name, fields in FIELDS.items():
            if not fields:
                with self.assertRaises(errors.HeardError) as caught:
                    raise getattr(errors, name)("why")
                self.assertEqual(str(caught.exception), "why")
                self.assertEqual(vars(caught.exception), {})

    def test_those_with_one_field_keep_just_what_they_are_given(self):
        for name, fields in FIELDS.items():
            if len(fields) == 1:
                for thing in ANYTHING:
                    with self.assertRaises(errors.HeardError) as caught:
                        raise getattr(errors, name)(thing)
                    self.assertEqual(list(vars(caught.exception)), list(fields))
                    self.assertIs(getattr(caught.exception, fields[0]), thing)

    def test_no_path_has_a_path_and_a_step(self):
        with self.assertRaises(errors.HeardError) as caught:
            raise errors.NoPath(["a", 3], 1)
        self.assertEqual(vars(caught.exception), {"path": ["a", 3], "step": 1})

    def test_the_path_of_no_path_is_a_list_of_its_own(self):
        path = ["a", 3]
        told = errors.NoPath(path, 1)
        path.append("b")
        self.assertEqual(told.path, ["a", 3])
        told.path.append("c")
        self.assertEqual(path, ["a", 3, "b"])

    def test_each_can_be_written_whatever_it_was_made_of(self):
        for name, fields in FIELDS.items():
            if len(fields) == 1:
                for thing in ANYTHING:
                    told = getattr(errors, name)(thing)
                    self.assertTrue(str(told))
                    self.assertTrue(repr(told))


if __name__ == "__main__":
    unittest.main()
