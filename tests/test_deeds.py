"""Points 6 and 7, and of 2 and 3 what they say of what things are and of deeds."""

import copy
import inspect
import unittest

from heardalike import deeds
from heardalike.deeds import is_deed, is_what, named
from heardalike.stamps import ROOT
from tests.things import ANYTHING, HUGE, NOWHERE, Sour, Sweet, deep_tuple, ring_list

WHATS = [
    ("object",), ("list",), ("text",), ("sign", "x"), ("sign", " "), ("sign", "~"), ("leaf", None), ("leaf", True),
    ("leaf", False), ("leaf", 0), ("leaf", 5), ("leaf", -5), ("leaf", 10 ** 30 - 1), ("leaf", -(10 ** 30) + 1),
]

STAMP = (9, "mia")
BELOW = [(1, "ann"), (8, "zoe"), (8, "zzzzzzzz"), (9, "ann"), (9, "m"), (9, "mi"), (9, "mhz")]
NOT_BELOW = [(9, "mia"), (9, "miaa"), (9, "mib"), (9, "zoe"), (10, "a"), (10, "mia"), (999999999999999, "ann")]
# Every stamp in these is (3, "ann"), so that a test finds each of them and can put another one there.
WORDS = [
    ("put", ROOT, "title", ("list",)),
    ("put", ROOT, ROOT, ("text",)),
    ("put", (3, "ann"), "title", ("object",)),
    ("put", (3, "ann"), ROOT, ("sign", "x")),
    ("put", (3, "ann"), (3, "ann"), ("leaf", 4)),
    ("put", ROOT, (3, "ann"), ("leaf", None)),
    ("move", (3, "ann"), ROOT, "title"),
    ("move", (3, "ann"), (3, "ann"), ROOT),
    ("move", (3, "ann"), (3, "ann"), (3, "ann")),
    ("move", (3, "ann"), ROOT, (3, "ann")),
    ("take", (3, "ann")),
    ("undo", (3, "ann")),
    ("seen", 0),
    ("seen", 8),
]


def deed_of_words(words, before=4):
    return (STAMP, before, words)


def replaced(parts, at, thing):
    """The tuple with another thing at one of its parts."""
    return (*parts[:at], thing, *parts[at + 1:])


class Truths(unittest.TestCase):
    def whats(self, things, truth):
        for thing in things:
            self.assertIs(is_what(thing), truth)

    def words(self, rows, truth):
        for words in rows:
            self.assertIs(is_deed(deed_of_words(words)), truth, words)


class Whats(Truths):
    def test_each_kind(self):
        self.whats(WHATS, True)

    def test_signs_from_the_blank_to_the_tilde_but_the_percent_sign(self):
        for code in range(0x3000):
            truth = 32 <= code <= 126 and code != 37
            self.assertIs(is_what(("sign", chr(code))), truth, code)
        self.whats([("sign", "$"), ("sign", "&"), ("sign", " "), ("sign", "~"), ("sign", '"'), ("sign", "\\")], True)
        self.whats([("sign", "%"), ("sign", "\x1f"), ("sign", "\x7f"), ("sign", "\n"), ("sign", "\ud800")], False)

    def test_texts_of_no_and_of_two_signs(self):
        self.whats([("sign", ""), ("sign", "ab"), ("sign", "  "), ("sign", "x\n"), ("sign", "a\u0301")], False)

    def test_signs_of_other_kinds(self):
        signs = (None, True, 1, b"x", ["x"], ("x",), {"x": 1}, ring_list(), Sour(), Sweet(), deep_tuple(), HUGE)
        self.whats([("sign", sign) for sign in signs], False)

    def test_leaves_of_thirty_and_of_thirty_one_figures(self):
        for number, truth in (
            (10 ** 29, True), (10 ** 30 - 1, True), (10 ** 30, False), (10 ** 31, False),
            (-(10 ** 29), True), (-(10 ** 30) + 1, True), (-(10 ** 30), False), (-(10 ** 31), False),
            (10 ** 4300, False), (-(10 ** 4300), False), (HUGE, False), (-HUGE, False),
        ):
            self.assertIs(is_what(("leaf", number)), truth)

    def test_leaves_of_other_kinds(self):
        leaves = ("", "x", "none", b"x", [], (), {}, (1,), [None], ring_list(), Sour(), Sweet(), deep_tuple(), len)
        self.whats([("leaf", leaf) for leaf in leaves], False)

    def test_a_part_more_or_less(self):
        for what in WHATS:
            self.whats([(*what, thing) for thing in ANYTHING], False)
        self.whats([("object", None), ("list", ""), ("text", ""), ("text", "x"), ("object", ()), ("sign",), ("leaf",)], False)
        self.whats([("sign", "x", "y"), ("leaf", 1, 2), ("leaf", None, None), ("sign", "x", None), ()], False)

    def test_other_first_words(self):
        words = ("", "Object", "objects", "LIST", "text ", "dict", "leaves", "signs", "none", "put", "o")
        self.whats([(word,) for word in words], False)
        self.whats([(word, "x") for word in words], False)
        self.whats([(word, 1) for word in words], False)
        for thing in ANYTHING:
            self.whats([(thing,), (thing, "x"), (thing, 1), (thing, None)], False)

    def test_anything_else(self):
        self.whats(NOWHERE, False)
        self.whats([None, True, False, 0, 1, "object", "sign x", b"object", ["object"], ["sign", "x"], ["leaf", 1]], False)
        self.whats([{"object": 1}, {"leaf": 1}, ("object",) * 2, (("object",),), ROOT, (1, "ann")], False)


class Deeds(Truths):
    def test_a_deed_of_each_word(self):
        self.words(WORDS, True)

    def test_a_put_of_each_what(self):
        self.words([("put", ROOT, "a", what) for what in WHATS], True)

    def test_the_least_deed(self):
        self.assertIs(is_deed(((1, "a"), 0, ("put", ROOT, "a", ("list",)))), True)
        self.assertIs(is_deed(((1, "a"), 0, ("seen", 0))), True)
        self.assertIs(is_deed(((1, "b"), 0, ("take", (1, "a")))), True)

    def test_the_greatest_count(self):
        self.assertIs(is_deed(((10 ** 15 - 1, "ann"), 10 ** 15 - 2, ("seen", 10 ** 15 - 2))), True)
        self.assertIs(is_deed(((10 ** 15, "ann"), 4, ("seen", 4))), False)

    def test_before_at_its_edges(self):
        for words in WORDS:
            for before, truth in (
                (-HUGE, False), (-1, False), (0, True), (1, True), (7, True), (8, True), (9, False), (10, False), (HUGE, False),
            ):
                self.assertIs(is_deed(deed_of_words(words, before)), truth, (words, before))

    def test_before_of_other_kinds(self):
        for before in (None, True, False, "4", b"4", [4], (4,), (4, "mia"), {}, {4: 4}, Sour(), Sweet(), deep_tuple()):
            self.assertIs(is_deed((STAMP, before, ("seen", 0))), False)

    def test_upto_at_its_edges(self):
        for upto, truth in (
            (-HUGE, False), (-1, False), (0, True), (1, True), (7, True), (8, True), (9, False), (10, False), (HUGE, False),
        ):
            self.assertIs(is_deed(deed_of_words(("seen", upto))), truth, upto)

    def test_upto_of_other_kinds(self):
        for upto in (None, True, False, "4", b"4", [4], (4,), (4, "mia"), ROOT, {}, Sour(), Sweet(), deep_tuple()):
            self.assertIs(is_deed(deed_of_words(("seen", upto))), False)

    def test_upto_and_before_have_no_bearing_on_each_other(self):
        for before in (0, 4, 8):
            for upto in (0, 4, 8):
                self.assertIs(is_deed(deed_of_words(("seen", upto), before)), True)

    def test_each_stamp_in_the_words_is_less_than_the_deeds_own(self):
        for words in WORDS:
            for at, part in enumerate(words):
                if part == (3, "ann"):
                    self.words([replaced(words, at, stamp) for stamp in BELOW], True)
                    self.words([replaced(words, at, stamp) for stamp in NOT_BELOW], False)

    def test_its_stamp(self):
        for stamp, truth in (
            ((1, "ann"), True), ((2, "bob"), True), ((1, "ann", 1), False), ((0, "ann"), False), ((True, "ann"), False),
            ((1, ""), False), ((1, "Ann"), False), ((1, "abcdefghi"), False), ([1, "ann"], False), ("1.ann", False), (1, False),
        ):
            self.assertIs(is_deed((stamp, 0, ("seen", 0))), truth)

    def test_root_is_no_thing_and_no_deed(self):
        self.words([("move", ROOT, ROOT, "a"), ("take", ROOT), ("undo", ROOT)], False)
        self.assertIs(is_deed((ROOT, 0, ("seen", 0))), False)

    def test_false_and_no_name_is_not_root(self):
        odd = (False, "")
        self.words([("put", odd, "a", ("list",)), ("put", ROOT, odd, ("list",))], False)
        self.words([("move", (3, "ann"), odd, "a"), ("move", (3, "ann"), ROOT, odd)], False)
        self.words([("put", (True, "ann"), "a", ("list",)), ("put", ROOT, (True, "ann"), ("list",))], False)

    def test_places(self):
        for place, truth in (
            ("a", True), ("abcdefghijkl", True), ("abcdefghijklm", False), ("", False), ("1a", False), ("_a", False),
            ("A", False), (ROOT, True), ((1, "ann"), True), (0, False), (-1, False), (None, False),
        ):
            self.words([("put", ROOT, place, ("list",)), ("move", (3, "ann"), ROOT, place)], truth)

    def test_a_field_is_no_parent_and_no_thing(self):
        self.words([("put", "a", "a", ("list",)), ("move", "a", ROOT, "a"), ("move", (3, "ann"), "a", "a")], False)
        self.words([("take", "a"), ("undo", "a")], False)

    def test_what_is_never_right_in_each_place(self):
        for words in WORDS:
            for thing in NOWHERE:
                for at in range(len(words)):
                    self.assertIs(is_deed(deed_of_words(replaced(words, at, thing))), False)
            deed = deed_of_words(words)
            for thing in NOWHERE:
                for at in range(3):
                    self.assertIs(is_deed(replaced(deed, at, thing)), False)

    def test_what_is_never_right_within_a_stamp(self):
        for words in WORDS:
            for at, part in enumerate(words):
                if part == (3, "ann"):
                    for thing in NOWHERE:
                        for stamp in ((thing, "ann"), (3, thing), (3, "ann", thing), (thing,)):
                            self.assertIs(is_deed(deed_of_words(replaced(words, at, stamp))), False)

    def test_what_is_never_right_within_a_what(self):
        for thing in NOWHERE:
            for what in ((thing,), (thing, "x"), (thing, None), ("object", thing), ("sign", "x", thing), ("leaf", 1, thing)):
                self.assertIs(is_deed(deed_of_words(("put", ROOT, "a", what))), False)

    def test_a_part_more_or_less(self):
        for words in WORDS:
            deed = deed_of_words(words)
            self.assertIs(is_deed(deed[:2]), False)
            self.assertIs(is_deed(deed[1:]), False)
            self.words([words[:-1], words[1:], words[:1], ()], False)
            for thing in ANYTHING:
                self.assertIs(is_deed((*deed, thing)), False)
                self.assertIs(is_deed(deed_of_words((*words, thing))), False)

    def test_another_first_word(self):
        firsts = ("put", "move", "take", "undo", "seen", "Put", "puts", "", "object", "again", "drop", "p")
        for words in WORDS:
            for first in firsts:
                same = first == words[0] or {first, words[0]} == {"take", "undo"}
                self.words([replaced(words, 0, first)], same)

    def test_lists_for_tuples(self):
        for words in WORDS:
            deed = deed_of_words(words)
            self.assertIs(is_deed(list(deed)), False)
            self.assertIs(is_deed(([*STAMP], 4, words)), False)
            self.words([list(words)], False)
            for at, part in enumerate(words):
                if isinstance(part, tuple):
                    self.words([replaced(words, at, list(part))], False)

    def test_whats_in_puts_alone(self):
        self.words([("put", ROOT, "a", what) for what in (None, "list", ("dict",), ("sign", "%"), ("leaf", 10 ** 30))], False)
        self.words([("move", (3, "ann"), ROOT, ("list",)), ("take", ("list",)), ("put", ("list",), "a", ("list",))], False)

    def test_anything_else(self):
        for thing in NOWHERE:
            self.assertIs(is_deed(thing), False)
        for thing in (None, True, 0, 1, "9.mia 4 seen 0", b"9.mia 4 seen 0", STAMP, ROOT, ("seen", 0), {}, []):
            self.assertIs(is_deed(thing), False)


class Named(unittest.TestCase):
    def named(self, words, stamps):
        told = named(deed_of_words(words))
        self.assertIs(type(told), list)
        self.assertEqual(told, stamps)

    def test_puts(self):
        self.named(("put", ROOT, "a", ("list",)), [])
        self.named(("put", ROOT, ROOT, ("list",)), [])
        self.named(("put", (3, "ann"), "a", ("list",)), [(3, "ann")])
        self.named(("put", (3, "ann"), ROOT, ("sign", "x")), [(3, "ann")])
        self.named(("put", ROOT, (4, "bob"), ("leaf", 7)), [(4, "bob")])
        self.named(("put", (3, "ann"), (4, "bob"), ("leaf", 7)), [(3, "ann"), (4, "bob")])
        self.named(("put", (4, "bob"), (3, "ann"), ("leaf", None)), [(4, "bob"), (3, "ann")])

    def test_moves(self):
        self.named(("move", (5, "zoe"), ROOT, "a"), [(5, "zoe")])
        self.named(("move", (5, "zoe"), ROOT, (2, "ann")), [(5, "zoe"), (2, "ann")])
        self.named(("move", (5, "zoe"), (3, "ann"), "a"), [(5, "zoe"), (3, "ann")])
        self.named(("move", (5, "zoe"), (3, "ann"), ROOT), [(5, "zoe"), (3, "ann")])
        self.named(("move", (5, "zoe"), (3, "ann"), (4, "bob")), [(5, "zoe"), (3, "ann"), (4, "bob")])

    def test_takes_undos_and_seens(self):
        self.named(("take", (3, "ann")), [(3, "ann")])
        self.named(("undo", (8, "zoe")), [(8, "zoe")])
        self.named(("seen", 0), [])
        self.named(("seen", 8), [])

    def test_as_often_as_they_stand_there(self):
        self.named(("put", (3, "ann"), (3, "ann"), ("list",)), [(3, "ann")] * 2)
        self.named(("move", (3, "ann"), (3, "ann"), (3, "ann")), [(3, "ann")] * 3)
        self.named(("move", (3, "ann"), (4, "bob"), (3, "ann")), [(3, "ann"), (4, "bob"), (3, "ann")])
        self.named(("move", (3, "ann"), ROOT, (3, "ann")), [(3, "ann")] * 2)

    def test_neither_its_own_stamp_nor_its_before(self):
        for words in WORDS:
            self.assertNotIn(STAMP, named(deed_of_words(words)))
            self.assertNotIn((4, "mia"), named(deed_of_words(words)))

    def test_a_told_list_is_the_askers_own(self):
        deed = deed_of_words(("move", (5, "zoe"), (3, "ann"), (4, "bob")))
        told = named(deed)
        told.append((1, "x"))
        told[0] = None
        self.assertEqual(named(deed), [(5, "zoe"), (3, "ann"), (4, "bob")])
        empty = named(deed_of_words(("seen", 3)))
        empty.append(1)
        self.assertEqual(named(deed_of_words(("seen", 3))), [])
        self.assertEqual(named(deed_of_words(("put", ROOT, "a", ("list",)))), [])
        self.assertEqual(deed, (STAMP, 4, ("move", (5, "zoe"), (3, "ann"), (4, "bob"))))


class Handing(unittest.TestCase):
    def test_asked_again_the_same_is_told(self):
        for check in (is_what, is_deed):
            things = [*ANYTHING, *WHATS, *[deed_of_words(words) for words in WORDS]]
            first = [check(thing) for thing in things]
            self.assertEqual([check(thing) for thing in things], first)
        for words in WORDS:
            self.assertEqual(named(deed_of_words(words)), named(deed_of_words(words)))

    def test_what_is_handed_in_stays(self):
        things = [
            [1, 2], {"a": [1]}, ("leaf", [1]), ("sign", ["x"]), ([STAMP], 0, ["seen", 0]), (STAMP, [0], ("seen", 0)),
            (STAMP, 0, ("put", [0, ""], ["a"], ["list"])), (STAMP, 0, {"seen": 0}), *[deed_of_words(words) for words in WORDS],
        ]
        kept = copy.deepcopy(things)
        for thing in things:
            is_what(thing)
            is_deed(thing)
        for words in WORDS:
            named(deed_of_words(words))
        self.assertEqual(repr(things), repr(kept))

    def test_things_that_resist(self):
        for thing in (Sour(), Sweet(), deep_tuple(), ring_list(), (Sour(),) * 3, (Sweet(),) * 3, (Sweet(), 0, ("seen", 0))):
            self.assertIs(is_what(thing), False)
            self.assertIs(is_deed(thing), False)

    def test_arguments_by_their_names(self):
        self.assertIs(is_what(thing=("list",)), True)
        self.assertIs(is_deed(thing=deed_of_words(("seen", 0))), True)
        self.assertEqual(named(deed=deed_of_words(("take", (3, "ann")))), [(3, "ann")])

    def test_the_interface(self):
        for name, parameters in (("is_what", ["thing"]), ("is_deed", ["thing"]), ("named", ["deed"])):
            told = getattr(deeds, name)
            self.assertEqual(told.__module__, "heardalike.deeds")
            self.assertEqual(list(inspect.signature(told).parameters), parameters)


if __name__ == "__main__":
    unittest.main()
