"""Point 5, and of 2, 3 and 8 what they say of names, fields and stamps."""

import inspect
import string
import unittest

from heardalike import stamps
from heardalike.stamps import ROOT, is_field, is_name, is_stamp, stamp_text
from tests.things import ANYTHING, HUGE, NOWHERE, Sour, Sweet, deep_tuple, ring_list

# One sign of each kind that Python's own tests of letters and figures take for one, and more.
OTHER_SIGNS = [chr(code) for code in range(0x3000)] + [
    "\uff41", "\uff11", "\ufb01", "\ud800", "\udfff", "\uffff", "\U0001d41a", "\U0001d7d8", "\U0001f600", "\U0010ffff",
]


class Truths(unittest.TestCase):
    def told(self, check, thing, truth):
        self.assertIs(check(thing), truth)


class Names(Truths):
    def test_names_of_one_to_eight_letters(self):
        for name in ("a", "z", "ann", "bob", "zoe", "abcdefg", "abcdefgh", "zzzzzzzz"):
            self.told(is_name, name, True)

    def test_no_letter_and_nine_letters(self):
        for name in ("", "abcdefghi", "a" * 100):
            self.told(is_name, name, False)

    def test_each_sign_alone_and_at_each_end(self):
        for sign in OTHER_SIGNS:
            truth = sign in string.ascii_lowercase
            for name in (sign, "a" + sign, sign + "a", "a" + sign + "a"):
                self.told(is_name, name, truth)

    def test_other_signs(self):
        for name in ("Ann", "ANN", "an n", " ann", "ann ", "ann\n", "\nann", "a1", "1a", "a_b", "a-b", "a.b", "\t"):
            self.told(is_name, name, False)

    def test_anything_else(self):
        for thing in NOWHERE:
            self.told(is_name, thing, False)
        for thing in (None, True, False, 0, 1, ("ann",), ["ann"], b"ann", {"ann": 1}, ("a", "n", "n"), ["a"], ROOT):
            self.told(is_name, thing, False)


class Fields(Truths):
    def test_fields_of_one_to_twelve_signs(self):
        for field in ("a", "z", "title", "a1", "a_", "a_1", "a__", "z9_z9_", "abcdefghijk", "abcdefghijkl", "a12345678901"):
            self.told(is_field, field, True)

    def test_no_sign_and_thirteen_signs(self):
        for field in ("", "abcdefghijklm", "a123456789012", "a" * 100):
            self.told(is_field, field, False)

    def test_the_first_is_a_letter(self):
        for field in ("1", "_", "1a", "_a", "0title", "__", "9_", "_1"):
            self.told(is_field, field, False)

    def test_each_sign_first_and_behind(self):
        for sign in OTHER_SIGNS:
            first = sign in string.ascii_lowercase
            behind = first or sign in string.digits or sign == "_"
            self.told(is_field, sign, first)
            self.told(is_field, sign + "a", first)
            self.told(is_field, "a" + sign, behind)
            self.told(is_field, "a" + sign + "a", behind)

    def test_other_signs(self):
        for field in ("Title", "a b", " a", "a ", "a\n", "a-b", "a.b", "a%", "tItle"):
            self.told(is_field, field, False)

    def test_anything_else(self):
        for thing in NOWHERE:
            self.told(is_field, thing, False)
        for thing in (None, True, False, 0, 1, ("a",), ["a"], b"a", {"a": 1}, ROOT, (1, "ann")):
            self.told(is_field, thing, False)


class Stamps(Truths):
    def test_stamps(self):
        for stamp in ((1, "a"), (1, "ann"), (12, "ann"), (7, "abcdefgh"), (999999999999999, "zoe")):
            self.told(is_stamp, stamp, True)

    def test_counts_at_their_edges(self):
        for count, truth in (
            (-1, False), (0, False), (1, True), (2, True), (10 ** 14, True), (10 ** 15 - 1, True), (10 ** 15, False),
            (-(10 ** 14), False), (10 ** 16, False), (10 ** 4299, False), (10 ** 4300, False), (HUGE, False), (-HUGE, False),
        ):
            self.told(is_stamp, (count, "ann"), truth)

    def test_root_is_none(self):
        self.told(is_stamp, ROOT, False)
        self.told(is_stamp, (0, "ann"), False)
        self.told(is_stamp, (1, ""), False)

    def test_truths_are_no_counts(self):
        for stamp in ((True, "ann"), (False, "ann"), (False, "")):
            self.told(is_stamp, stamp, False)

    def test_names_at_their_edges(self):
        for name, truth in (("", False), ("a", True), ("abcdefgh", True), ("abcdefghi", False), ("Ann", False)):
            self.told(is_stamp, (3, name), truth)

    def test_each_part_is_anything(self):
        for thing in NOWHERE:
            self.told(is_stamp, thing, False)
            self.told(is_stamp, (thing, "ann"), False)
            self.told(is_stamp, (1, thing), False)
            self.told(is_stamp, (1, "ann", thing), False)
            self.told(is_stamp, (thing,), False)
            self.told(is_stamp, (thing, thing), False)

    def test_a_part_more_or_less_and_other_kinds(self):
        for thing in (
            (), (1,), ("ann",), (1, "ann", 1), ((1, "ann"),), [1, "ann"], {1: "ann"}, "1.ann", b"1.ann", ("1", "ann"),
            ("ann", 1), None, 1, "ann", (1, b"ann"), (1, ["a"]), (1, ("ann",)),
        ):
            self.told(is_stamp, thing, False)


class Root(unittest.TestCase):
    def test_root(self):
        self.assertEqual(repr(ROOT), "(0, '')")
        self.assertIs(type(ROOT), tuple)
        self.assertIs(type(ROOT[0]), int)

    def test_it_is_less_than_each_stamp(self):
        for stamp in ((1, "a"), (1, "zzzzzzzz"), (999999999999999, "a")):
            self.assertLess(ROOT, stamp)

    def test_only_root_is_root(self):
        self.assertIs(stamps.is_root((0, "")), True)
        self.assertIs(stamps.is_root((False, "")), False)
        for thing in (*NOWHERE, (0, "a"), (1, ""), (1, "ann"), "", 0, None, [0, ""]):
            self.assertIs(stamps.is_root(thing), False)


class StampTexts(unittest.TestCase):
    def test_texts(self):
        for stamp, text in (
            ((12, "ann"), "12.ann"), ((1, "a"), "1.a"), ((7, "abcdefgh"), "7.abcdefgh"),
            ((999999999999999, "zoe"), "999999999999999.zoe"), ((100, "bob"), "100.bob"),
        ):
            self.assertEqual(stamp_text(stamp), text)

    def test_of_root(self):
        self.assertEqual(stamp_text(ROOT), "0.")
        self.assertEqual(stamp_text((0, "")), "0.")


class Handing(unittest.TestCase):
    def test_asked_again_the_same_is_told(self):
        for check in (is_name, is_field, is_stamp):
            first = [check(thing) for thing in ANYTHING]
            self.assertEqual([check(thing) for thing in ANYTHING], first)
        self.assertEqual([stamp_text((3, "ann")) for _ in range(3)], ["3.ann"] * 3)

    def test_a_list_that_changes_behind_the_call_has_no_bearing(self):
        parts = [1, "ann"]
        self.assertIs(is_stamp(tuple(parts)), True)
        parts[0] = 0
        self.assertIs(is_stamp(tuple(parts)), False)
        self.assertIs(is_stamp((1, "ann")), True)

    def test_what_is_handed_in_stays(self):
        things = [[1, "ann"], {1: "ann"}, {"a"}, (1, ["ann"]), ([1], "ann"), bytearray(b"ann")]
        written = repr(things)
        for check in (is_name, is_field, is_stamp):
            for thing in things:
                self.assertIs(check(thing), False)
        self.assertEqual(repr(things), written)

    def test_things_that_resist(self):
        for thing in (Sour(), Sweet(), deep_tuple(), ring_list(), (Sour(), Sour()), (Sweet(), "ann"), (1, Sweet())):
            for check in (is_name, is_field, is_stamp):
                self.assertIs(check(thing), False)

    def test_arguments_by_their_names(self):
        self.assertIs(is_name(thing="ann"), True)
        self.assertIs(is_field(thing="a_1"), True)
        self.assertIs(is_stamp(thing=(1, "ann")), True)
        self.assertEqual(stamp_text(stamp=(1, "ann")), "1.ann")

    def test_the_interface(self):
        for name, parameters in (
            ("is_name", ["thing"]), ("is_field", ["thing"]), ("is_stamp", ["thing"]), ("stamp_text", ["stamp"]),
        ):
            told = getattr(stamps, name)
            self.assertEqual(told.__module__, "heardalike.stamps")
            self.assertEqual(list(inspect.signature(told).parameters), parameters)


if __name__ == "__main__":
    unittest.main()
