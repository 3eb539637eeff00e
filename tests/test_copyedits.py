"""Points 25 and 26: the edits of a copy, at which places, and in which order they are refused."""

import itertools
import random
import unittest

from heardalike.copies import Copy
from heardalike.deeds import is_what
from heardalike.deedtexts import deed_of
from heardalike.edits import END
from heardalike.errors import HeardError
from heardalike.keepers import Keeper
from heardalike.shows import beside
from heardalike.stamps import ROOT, is_field
from tests.copymodel import Refused, Told
from tests.model import HOLDERS, written
from tests.refusals import Refusing, all_told, refusal
from tests.sets import read
from tests.things import ANYTHING, HUGE, Sour, Sweet
from tests.values import strict

NAMES = ["ann", "bob", "cy"]
# What is shown of these: {"o": {"l": [1, 2, 3], "t": "abc"}, "v": 7, "t": "", "l": []}
SCENE = read(
    "1.ann 0 put 0. o object", "2.ann 1 put 1.ann l list", "3.ann 2 put 2.ann 0. leaf 1", "4.ann 3 put 2.ann 3.ann leaf 2", "5.ann 4 put 2.ann 4.ann leaf 3",
    "6.ann 5 put 1.ann t text", "7.ann 6 put 6.ann 0. sign a", "8.ann 7 put 6.ann 7.ann sign b", "9.ann 8 put 6.ann 8.ann sign c",
    "10.bob 0 put 0. v leaf 7", "11.bob 10 put 0. t text", "12.bob 11 put 0. l list",
)
VALUE = {"o": {"l": [1, 2, 3], "t": "abc"}, "v": 7, "t": "", "l": []}
NO_PLACES = [thing for thing in ANYTHING if not isinstance(thing, int) or isinstance(thing, bool)] + [Sour(), Sweet(), "end", "-1", "0"]
NO_FIELDS = [thing for thing in [*ANYTHING, Sour(), Sweet(), END, 0] if not (isinstance(thing, str) and is_field(thing))]
NO_WHATS = [thing for thing in [*ANYTHING, Sour(), Sweet(), "x", "object", ("sign", "xy"), ("sign", ""), ("leaf", 10 ** 30), ("leaf", "1"), ["list"]] if not is_what(thing)]


class Editing(Refusing):
    KIND = Copy

    def copy(self, *more, name="ann"):
        one = self.KIND(name, among=NAMES)
        one.hear_all([*SCENE, *read(*more)])
        return one

    def made(self, one, deeds, texts):
        """These deeds were made, in this order, and are heard by the copy."""
        self.assertEqual(written(deeds), list(texts))
        self.assertEqual(one.stands()[-len(texts):] if texts else [], deeds)

    def shows(self, one, path, value):
        self.assertEqual(strict(one.at(path)), strict(value))


class Puts(Editing):
    def test_into_root_and_objects(self):
        one = self.copy()
        self.made(one, [one.put([], ("leaf", None), place="n")], ["13.ann 9 put 0. n leaf none"])
        self.made(one, [one.put(["o"], ("list",), place="l")], ["14.ann 13 put 1.ann l list"])
        self.shows(one, [], {**VALUE, "n": None, "o": {"l": [], "t": "abc"}})
        self.made(one, [one.put(["o"], ("object",), place="end")], ["15.ann 14 put 1.ann end object"])
        self.assertEqual(beside(one.deeds(), ["o"], "l"), [[1, 2, 3]])

    def test_into_a_list_at_each_place(self):
        for place, texts, value in (
            (0, "13.ann 9 put 2.ann 0. leaf 9", [9, 1, 2, 3]), (1, "13.ann 9 put 2.ann 3.ann leaf 9", [1, 9, 2, 3]), (2, "13.ann 9 put 2.ann 4.ann leaf 9", [1, 2, 9, 3]),
            (3, "13.ann 9 put 2.ann 5.ann leaf 9", [1, 2, 3, 9]), (END, "13.ann 9 put 2.ann 5.ann leaf 9", [1, 2, 3, 9]),
        ):
            one = self.copy()
            self.made(one, [one.put(["o", "l"], ("leaf", 9), place=place)], [texts])
            self.shows(one, ["o", "l"], value)
        one = self.copy()
        self.assertEqual(one.put(["o", "l"], ("object",)), deed_of("13.ann 9 put 2.ann 5.ann object"))

    def test_into_a_text_at_each_place(self):
        for place, text in ((0, "xabc"), (1, "axbc"), (2, "abxc"), (3, "abcx"), (END, "abcx")):
            one = self.copy()
            one.put(["o", "t"], ("sign", "x"), place=place)
            self.shows(one, ["o", "t"], text)

    def test_into_empty_ones(self):
        for place in (0, END):
            one = self.copy()
            self.made(one, [one.put(["l"], ("text",), place=place)], ["13.ann 9 put 12.bob 0. text"])
            self.made(one, [one.put(["t"], ("sign", " "), place=place)], ["14.ann 13 put 11.bob 0. sign  "])
            self.shows(one, [], {**VALUE, "t": " ", "l": [""]})

    def test_where_things_were_moved_taken_and_undone(self):
        one = self.copy("13.bob 12 move 3.ann 2.ann 5.ann", "14.bob 13 take 4.ann", "15.bob 14 put 2.ann 0. leaf 4", "16.bob 15 undo 15.bob")
        self.shows(one, ["o", "l"], [3, 1])
        for place, value in ((0, [9, 3, 1]), (1, [3, 9, 1]), (2, [3, 1, 9])):
            other = self.copy(*written(one.deeds()[12:]))
            other.put(["o", "l"], ("leaf", 9), place=place)
            self.shows(other, ["o", "l"], value)
        self.assertEqual(one.put(["o", "l"], ("leaf", 9), place=2), deed_of("17.ann 9 put 2.ann 13.bob leaf 9"))

    def test_what_is_put_is_shown_just_there(self):
        lot = random.Random(25)
        one, other = self.copy(), self.copy(name="bob")
        row = [1, 2, 3]
        for number in range(10, 60):
            place = lot.randrange(len(row) + 1)
            (one if number % 2 else other).put(["o", "l"], ("leaf", number), place=place)
            row.insert(place, number)
            self.shows(one if number % 2 else other, ["o", "l"], row)
            one.hear_all(other.news(one.counts()))
            other.hear_all(one.news(other.counts()))

    def test_paths(self):
        one = self.copy()
        for path, step in ((["x"], 0), ([0], 0), (["o", "x"], 1), (["o", "l", 3], 2), (["o", "l", -1], 2), (["o", "l", True], 2), (["v", "a"], 1), (["v"], 1), (["o", "l", 0], 3), (["o", "t", 0], 3)):
            for what in (("leaf", 1), None, ("sign", "x")):
                for place in ("a", END, 0, None, True):
                    self.refused(one, "NoPath", {"path": path, "step": step}, one.put, path, what, place=place)
        self.refused(one, "NoPath", {"path": ["v"], "step": 1}, one.put, ["v"], ("leaf", 1))

    def test_places(self):
        one = self.copy()
        for path in ([], ["o"]):
            for place in NO_FIELDS:
                for what in (("leaf", 1), ("sign", "x"), None):
                    self.refused(one, "NoPlace", {"place": place}, one.put, path, what, place=place)
            self.refused(one, "NoPlace", {"place": -1}, one.put, path, ("leaf", 1))
        for path, many in ((["o", "l"], 3), (["o", "t"], 3), (["l"], 0), (["t"], 0)):
            for place in (*NO_PLACES, many + 1, many + 2, -2, -3, HUGE, -HUGE, True, False):
                for what in (("leaf", 1), ("sign", "x"), None):
                    self.refused(one, "NoPlace", {"place": place}, one.put, path, what, place=place)

    def test_whats(self):
        one = self.copy()
        for path, place in (([], "a"), (["o"], "a"), (["o", "l"], 0), (["l"], END), (["o", "t"], 1), (["t"], 0)):
            for what in NO_WHATS:
                self.refused(one, "NoWhat", {}, one.put, path, what, place=place)
        for path, place in (([], "a"), (["o"], "a"), (["o", "l"], 0)):
            self.refused(one, "NoWhat", {}, one.put, path, ("sign", "x"), place=place)
        for what in (("object",), ("list",), ("text",), ("leaf", 1), ("leaf", None)):
            self.refused(one, "NoWhat", {}, one.put, ["o", "t"], what)

    def test_leaves(self):
        for v in (None, True, False, 0, 1, 10 ** 30 - 1, 1 - 10 ** 30):
            one = self.copy()
            one.put([], ("leaf", v), place="a")
            self.shows(one, ["a"], v)

    def test_by_names(self):
        one = self.copy()
        self.assertEqual(one.put(place=1, what=("leaf", 9), path=["o", "l"]), deed_of("13.ann 9 put 2.ann 3.ann leaf 9"))
        with self.assertRaises(TypeError):
            one.put(["o", "l"], ("leaf", 9), 1)


class Writes(Editing):
    def test_at_each_place(self):
        for place, text in ((0, "xyzabc"), (1, "axyzbc"), (2, "abxyzc"), (3, "abcxyz"), (END, "abcxyz")):
            one = self.copy()
            self.assertEqual(len(one.write(["o", "t"], "xyz", place=place)), 3)
            self.shows(one, ["o", "t"], text)
        one = self.copy()
        self.made(one, one.write(["o", "t"], "xyz"), ["13.ann 9 put 6.ann 9.ann sign x", "14.ann 13 put 6.ann 13.ann sign y", "15.ann 14 put 6.ann 14.ann sign z"])

    def test_into_an_empty_one(self):
        one = self.copy()
        self.made(one, one.write(["t"], "hi", place=0), ["13.ann 9 put 11.bob 0. sign h", "14.ann 13 put 11.bob 13.ann sign i"])

    def test_no_signs(self):
        one = self.copy()
        ahead = all_told(one)
        for place in (0, 3, END):
            self.assertEqual(one.write(["o", "t"], "", place=place), [])
        self.assertEqual(all_told(one), ahead)
        self.refused(one, "NoPlace", {"place": 4}, one.write, ["o", "t"], "", place=4)
        self.refused(one, "NoPath", {"path": ["o"], "step": 1}, one.write, ["o"], "")

    def test_all_signs(self):
        text = "".join(chr(at) for at in range(32, 127) if chr(at) != "%")
        one = self.copy()
        one.write(["t"], text)
        self.shows(one, ["t"], text)

    def test_paths(self):
        one = self.copy()
        for path, step in (([], 0), (["o"], 1), (["o", "l"], 2), (["l"], 1), (["v"], 1), (["o", "t", 0], 3), (["x"], 0), (["o", "t", 3], 2), (["o", "l", 0], 3)):
            for text, place in itertools.product(("x", "", None, "\n"), (0, END, None, "a")):
                self.refused(one, "NoPath", {"path": path, "step": step}, one.write, path, text, place=place)

    def test_places(self):
        one = self.copy()
        for path, many in ((["o", "t"], 3), (["t"], 0)):
            for place in (*NO_PLACES, many + 1, -2, HUGE, True, False):
                for text in ("x", "", None):
                    self.refused(one, "NoPlace", {"place": place}, one.write, path, text, place=place)

    def test_what_is_no_text_of_signs(self):
        one = self.copy()
        for text in [thing for thing in [*ANYTHING, Sour(), Sweet()] if not isinstance(thing, str)] + ["\n", "a\nb", "\t", "x\n", "\u00e4", "a\x7f", ("sign", "x"), ["x"]]:
            self.refused(one, "NoWhat", {}, one.write, ["o", "t"], text, place=1)

    def test_two_at_once_stay_rows(self):
        one, other = self.copy(), self.copy(name="bob")
        one.write(["o", "t"], "HELLO", place=1)
        other.write(["o", "t"], "world", place=1)
        other.write(["o", "t"], "-", place=3)
        one.hear_all(other.news(one.counts()))
        other.hear_all(one.news(other.counts()))
        self.shows(one, ["o", "t"], "awo-rldHELLObc")
        self.shows(other, ["o", "t"], "awo-rldHELLObc")

    def test_by_names(self):
        one = self.copy()
        self.assertEqual(len(one.write(text="xy", place=0, path=["t"])), 2)
        with self.assertRaises(TypeError):
            one.write(["t"], "x", 0)


class Gives(Editing):
    def test_where_nothing_lies(self):
        one = self.copy()
        self.made(one, one.give([], "n", ("leaf", 5)), ["13.ann 9 put 0. n leaf 5"])
        self.made(one, one.give(["o"], "n", ("text",)), ["14.ann 13 put 1.ann n text"])

    def test_where_one_lies(self):
        one = self.copy()
        self.made(one, one.give([], "v", ("leaf", 8)), ["13.ann 9 take 10.bob", "14.ann 13 put 0. v leaf 8"])
        self.made(one, one.give(["o"], "l", ("leaf", 8)), ["15.ann 14 take 2.ann", "16.ann 15 put 1.ann l leaf 8"])
        self.shows(one, [], {"o": {"l": 8, "t": "abc"}, "v": 8, "t": "", "l": []})

    def test_where_several_lie(self):
        one = self.copy("13.cy 0 put 0. v list", "14.bob 12 move 11.bob 0. v", "15.bob 14 move 10.bob 0. v")
        self.assertEqual(beside(one.deeds(), [], "v"), ["", []])
        self.made(one, one.give([], "v", ("leaf", 8)), ["16.ann 9 take 10.bob", "17.ann 16 take 11.bob", "18.ann 17 take 13.cy", "19.ann 18 put 0. v leaf 8"])
        self.shows(one, [], {"o": VALUE["o"], "l": [], "v": 8})
        self.assertEqual(beside(one.deeds(), [], "v"), [])

    def test_paths(self):
        one = self.copy()
        for path, step in ((["o", "l"], 2), (["o", "t"], 2), (["v"], 1), (["x"], 0), (["o", "l", 0], 3), (["o", "t", 0], 3), ([0], 0)):
            for field, what in itertools.product(("a", None, END, 0), (("leaf", 1), None)):
                self.refused(one, "NoPath", {"path": path, "step": step}, one.give, path, field, what)

    def test_fields(self):
        one = self.copy()
        for path in ([], ["o"]):
            for field in NO_FIELDS:
                for what in (("leaf", 1), None):
                    self.refused(one, "NoPlace", {"place": field}, one.give, path, field, what)

    def test_whats(self):
        one = self.copy()
        for path in ([], ["o"]):
            for what in [*NO_WHATS, ("sign", "x")]:
                self.refused(one, "NoWhat", {}, one.give, path, "v", what)

    def test_by_names(self):
        one = self.copy()
        self.assertEqual(len(one.give(what=("leaf", 1), field="v", path=[])), 2)


class Moves(Editing):
    def test_to_fields(self):
        one = self.copy()
        self.made(one, [one.move(["o", "l"], [], place="x")], ["13.ann 9 move 2.ann 0. x"])
        self.made(one, [one.move(["v"], ["o"], place="t")], ["14.ann 13 move 10.bob 1.ann t"])
        self.shows(one, [], {"o": {"t": 7}, "x": [1, 2, 3], "t": "", "l": []})
        self.assertEqual(beside(one.deeds(), ["o"], "t"), ["abc"])

    def test_to_places(self):
        for place, value in ((0, [[], 1, 2, 3]), (1, [1, [], 2, 3]), (2, [1, 2, [], 3]), (3, [1, 2, 3, []]), (END, [1, 2, 3, []])):
            one = self.copy()
            one.move(["l"], ["o", "l"], place=place)
            self.shows(one, ["o", "l"], value)
        one = self.copy()
        self.assertEqual(one.move(["l"], ["o", "l"]), deed_of("13.ann 9 move 12.bob 2.ann 5.ann"))

    def test_within_one_list_as_it_is_shown_ahead_of_the_move(self):
        for at in range(3):
            for place in range(4):
                one = self.copy()
                one.move(["o", "l", at], ["o", "l"], place=place)
                row = [1, 2, 3]
                row.insert(place, row[at])
                del row[at if place > at else at + 1]
                self.shows(one, ["o", "l"], row)
        one = self.copy()
        self.made(one, [one.move(["o", "l", 0], ["o", "l"], place=1)], ["13.ann 9 move 3.ann 2.ann 3.ann"])
        self.made(one, [one.move(["o", "l", 0], ["o", "l"], place=0)], ["14.ann 13 move 3.ann 2.ann 0."])
        self.made(one, [one.move(["o", "l", 2], ["o", "l"])], ["15.ann 14 move 5.ann 2.ann 5.ann"])

    def test_signs(self):
        one = self.copy()
        one.move(["o", "t", 1], ["t"])
        one.move(["o", "t", 1], ["o", "t"], place=0)
        self.shows(one, [], {**VALUE, "o": {"l": [1, 2, 3], "t": "ca"}, "t": "b"})

    def test_rings(self):
        one = self.copy("13.bob 12 put 2.ann 0. object", "14.bob 13 put 13.bob x list")
        for path, to, place, thing in (
            (["o"], ["o"], "a", "1.ann"), (["o"], ["o", "l"], 0, "1.ann"), (["o"], ["o", "l", 0], "a", "1.ann"), (["o"], ["o", "l", 0, "x"], END, "1.ann"),
            (["o", "l"], ["o", "l"], END, "2.ann"), (["o", "l"], ["o", "l", 0], "x", "2.ann"), (["o", "l", 0], ["o", "l", 0, "x"], 0, "13.bob"),
        ):
            count, name = thing.split(".")
            self.refused(one, "Ring", {"thing": (int(count), name)}, one.move, path, to, place=place)
        one.move(["o", "l", 0], ["l"])
        one.move(["o"], ["l", 0, "x"])
        self.shows(one, ["l"], [{"x": [{"l": [1, 2, 3], "t": "abc"}]}])
        self.refused(one, "Ring", {"thing": (12, "bob")}, one.move, ["l"], ["l", 0, "x", 0], place="a")

    def test_paths(self):
        one = self.copy()
        nowhere = ((["x"], 0), (["o", "l", 3], 2), ([None], 0), (["v", "a"], 1), (["o", 0], 1))
        for (path, step), to, place in itertools.product((([], 0), *nowhere), ([], ["o"], ["x"], ["v"], ["o", "l"]), ("a", 0, None)):
            self.refused(one, "NoPath", {"path": path, "step": step}, one.move, path, to, place=place)
        for (to, step), path, place in itertools.product(((["v"], 1), (["o", "l", 0], 3), (["o", "t", 0], 3), *nowhere), (["o"], ["v"], ["o", "t", 0]), ("a", 0, None)):
            self.refused(one, "NoPath", {"path": to, "step": step}, one.move, path, to, place=place)

    def test_places(self):
        one = self.copy()
        for path in (["o"], ["v"], ["o", "t", 0], ["o", "l"]):
            for to in ([], ["o"]):
                for place in NO_FIELDS:
                    self.refused(one, "NoPlace", {"place": place}, one.move, path, to, place=place)
                self.refused(one, "NoPlace", {"place": -1}, one.move, path, to)
            for to, many in ((["o", "l"], 3), (["o", "t"], 3), (["t"], 0)):
                for place in (*NO_PLACES, many + 1, -2, True, False):
                    self.refused(one, "NoPlace", {"place": place}, one.move, path, to, place=place)

    def test_what_does_not_fit(self):
        one = self.copy()
        for to, place in (([], "a"), (["o"], "a"), (["o", "l"], 0), (["l"], END)):
            self.refused(one, "NoWhat", {}, one.move, ["o", "t", 0], to, place=place)
        for path in (["o"], ["v"], ["o", "t"], ["t"], ["l"], ["o", "l", 0]):
            self.refused(one, "NoWhat", {}, one.move, path, ["o", "t"], place=1)

    def test_no_what_goes_ahead_of_ring(self):
        one = self.copy()
        self.refused(one, "NoWhat", {}, one.move, ["o"], ["o", "t"])
        self.refused(one, "NoWhat", {}, one.move, ["t"], ["t"], place=0)
        self.refused(one, "NoPlace", {"place": 1}, one.move, ["o"], ["o"], place=1)
        self.refused(one, "NoPlace", {"place": 1}, one.move, ["t"], ["t"], place=1)

    def test_by_names(self):
        one = self.copy()
        self.assertEqual(one.move(place="z", to=[], path=["v"]), deed_of("13.ann 9 move 10.bob 0. z"))
        with self.assertRaises(TypeError):
            one.move(["v"], [], "z")


class Takes(Editing):
    def test_from_rows(self):
        one = self.copy()
        self.made(one, one.take(["o", "l", 1]), ["13.ann 9 take 4.ann"])
        self.made(one, one.take(["o", "t", 2]), ["14.ann 13 take 9.ann"])
        self.shows(one, ["o"], {"l": [1, 3], "t": "ab"})

    def test_from_fields(self):
        one = self.copy()
        self.made(one, one.take(["v"]), ["13.ann 9 take 10.bob"])
        self.made(one, one.take(["o", "l"]), ["14.ann 13 take 2.ann"])
        self.made(one, one.take(["o"]), ["15.ann 14 take 1.ann"])
        self.shows(one, [], {"t": "", "l": []})

    def test_where_several_lie(self):
        one = self.copy("13.cy 0 put 0. v list", "14.bob 12 move 11.bob 0. v", "15.bob 14 move 10.bob 0. v", "16.bob 15 put 1.ann v leaf 1")
        self.made(one, one.take(["v"]), ["17.ann 9 take 10.bob", "18.ann 17 take 11.bob", "19.ann 18 take 13.cy"])
        self.shows(one, [], {"o": {**VALUE["o"], "v": 1}, "l": []})

    def test_paths(self):
        one = self.copy()
        for path, step in (([], 0), (["x"], 0), (["o", "x"], 1), (["o", "l", 3], 2), (["v", 0], 1), ([None, 1], 0), (["o", "l", False], 2)):
            self.refused(one, "NoPath", {"path": path, "step": step}, one.take, path)
        self.assertEqual(len(one.take(path=["v"])), 1)


class Erases(Editing):
    def test_so_many_from_a_place_on(self):
        for place, many in itertools.product(range(4), range(4)):
            one = self.copy()
            row, text = [1, 2, 3], list("abc")
            if place + many > 3:
                for path in (["o", "l"], ["o", "t"]):
                    self.refused(one, "NoPlace", {"place": place}, one.erase, path, place=place, many=many)
                continue
            self.made(one, one.erase(["o", "l"], place=place, many=many), [f"{13 + at}.ann {12 + at if at else 9} take {3 + place + at}.ann" for at in range(many)])
            self.assertEqual(len(one.erase(["o", "t"], place=place, many=many)), many)
            del row[place:place + many], text[place:place + many]
            self.shows(one, ["o"], {"l": row, "t": "".join(text)})

    def test_without_place_and_many(self):
        one = self.copy()
        self.made(one, one.erase(["o", "l"]), ["13.ann 9 take 3.ann"])
        self.made(one, one.erase(["o", "l"], place=1), ["14.ann 13 take 5.ann"])
        self.made(one, one.erase(["o", "t"], many=2), ["15.ann 14 take 7.ann", "16.ann 15 take 8.ann"])

    def test_none(self):
        one = self.copy()
        ahead = all_told(one)
        for path in (["l"], ["t"], ["o", "l"]):
            self.assertEqual(one.erase(path, many=0), [])
        self.assertEqual(one.erase(["o", "t"], place=3, many=0), [])
        self.assertEqual(all_told(one), ahead)

    def test_places(self):
        one = self.copy()
        for path, many in ((["o", "l"], 3), (["o", "t"], 3), (["l"], 0)):
            for place in (*NO_PLACES, many + 1, END, -2, HUGE, True, False):
                for some in (0, 1, None, -1):
                    self.refused(one, "NoPlace", {"place": place}, one.erase, path, place=place, many=some)
            for some in (*NO_PLACES, many + 1, -1, HUGE, -HUGE, True, False):
                self.refused(one, "NoPlace", {"place": 0}, one.erase, path, place=0, many=some)
        self.refused(one, "NoPlace", {"place": 2}, one.erase, ["o", "l"], place=2, many=2)
        self.refused(one, "NoPlace", {"place": 0}, one.erase, ["l"])

    def test_paths(self):
        one = self.copy()
        for path, step in (([], 0), (["o"], 1), (["v"], 1), (["x"], 0), (["o", "l", 0], 3), (["o", "t", 0], 3), (["o", "t", 5], 2)):
            for place, many in itertools.product((0, None, END), (1, None, HUGE)):
                self.refused(one, "NoPath", {"path": path, "step": step}, one.erase, path, place=place, many=many)

    def test_by_names(self):
        one = self.copy()
        self.assertEqual(len(one.erase(many=2, path=["o", "l"], place=1)), 2)
        with self.assertRaises(TypeError):
            one.erase(["o", "l"], 0)


class Handing(Editing):
    def test_what_is_handed_in_stays(self):
        one = self.copy()
        path, to = ["o", "l"], []
        one.put(path, ("leaf", 1), place=0)
        one.erase(path, many=2)
        one.move(path, to, place="z")
        one.give(to, "z", ("list",))
        one.take(["v"])
        one.write(["t"], "x")
        refusal(one.put, path, ("leaf", 1))
        self.assertEqual((path, to), (["o", "l"], []))

    def test_the_path_of_a_refusal_is_its_own(self):
        one = self.copy()
        path = ["o", "x"]
        error = refusal(one.put, path, ("leaf", 1))
        path.append(1)
        self.assertEqual(error.path, ["o", "x"])

    def test_told_lists_are_the_askers_own(self):
        one = self.copy()
        told = [one.write(["t"], "xy"), one.give([], "v", ("leaf", 1)), one.take(["o", "l", 0]), one.erase(["o", "l"])]
        self.assertEqual([type(row) for row in told], [list] * 4)
        ahead = all_told(one)
        for row in told:
            row.clear()
        self.assertEqual(all_told(one), ahead)

    def test_kinds(self):
        one = self.copy()
        self.assertIs(type(one.put([], ("list",), place="a")), tuple)
        self.assertIs(type(one.move(["a"], [], place="b")), tuple)
        self.assertIs(type(one.erase(["o", "l"], many=0)), list)


class Drawn(unittest.TestCase):
    """Copies beside their second telling, over edits drawn by lot."""

    KIND = Copy
    FIRST = read("1.ann 0 put 0. t text", "2.ann 1 put 0. l list", "3.bob 0 put 1.ann 0. sign s", "4.cy 0 put 2.ann 0. text")

    def setUp(self):
        self.lot = random.Random(26)

    def any_of(self, *things):
        return self.lot.choice(things)

    def path(self, one, kinds=()):
        """A path, mostly to a thing of one of these kinds."""
        model = one.model()
        paths = [(path, "root" if thing == ROOT else model.what(thing)[0]) for path, thing in model.paths()]
        wanted = [path for path, kind in paths if kind in kinds and self.lot.random() < 0.9]
        path = list(self.any_of(*(wanted or [path for path, _ in paths])))
        if self.lot.random() < 0.1:
            path.insert(self.lot.randrange(len(path) + 1), self.any_of("a", "q", 0, 7, True, None, -1))
        return path

    def place(self, one, path):
        """A place, mostly such as there is where the path leads."""
        if self.lot.random() < 0.2:
            return self.any_of("a", 0, 1, 2, 3, END, True, None, "Q", -2)
        try:
            kind = one.led(path, ("root", *HOLDERS))[1]
        except Refused:
            kind = "list"
        return self.any_of(0, 0, 1, 2, 3, END, END) if kind in ("list", "text") else self.any_of("a", "b", "c", "t", "l")

    def what(self):
        return self.any_of(("object",), ("list",), ("list",), ("text",), ("sign", "x"), ("sign", "y"), ("leaf", self.lot.randrange(9)), ("leaf", True), None)

    def call(self, one):
        """A call: its name, arguments by their places and by their names."""
        word = self.any_of(*["put"] * 8, *["write"] * 3, "give", "give", *["move"] * 5, "take", "erase", "erase", "undo", "undo", "undo", "again", "seen", "seen")
        path, to = self.path(one), self.path(one)
        if word == "put":
            return word, (path, self.what()), {"place": self.place(one, path)}
        if word == "write":
            path = self.path(one, ("text",))
            return word, (path, self.any_of("", "q", "hi", "a b", None, "\n")), {"place": self.place(one, path)}
        if word == "give":
            path = self.path(one, ("root", "object"))
            return word, (path, self.place(one, path), self.what()), {}
        if word == "move":
            return word, (path, to), {"place": self.place(one, to)}
        if word == "take":
            return word, (path,), {}
        if word == "erase":
            return word, (self.path(one, ("list", "text")),), {"place": self.any_of(0, 0, 1, 2, END, None), "many": self.any_of(0, 1, 1, 2, 3, True)}
        if word == "undo":
            return word, (self.any_of(None, None, (1, "zoe"), *[deed[0] for deed in one.deeds]),), {}
        return word, (), {"upto": self.any_of(None, None, 0, 1, 3, 5, True)} if word == "seen" else {}

    def outcome(self, call, *places, **names):
        try:
            told = call(*places, **names)
        except Refused as refused:
            return refused.args
        except HeardError as error:
            return (type(error).__name__, *vars(error).values())
        return written(told if isinstance(told, list) else [told])

    def hand_on(self, one, told, other, heard):
        """Some of one's news are heard by the other, in any order."""
        news = one.news(other.counts())
        self.assertEqual(news, told.news(other.counts()))
        if self.lot.random() < 0.5:
            self.lot.shuffle(news)
        for deed in news[:self.lot.randrange(16)]:
            other.hear(deed)
            heard.deeds += [deed] if deed not in heard.deeds else []
        self.assertEqual(strict(other.shown()), strict(heard.model().shown()))
        self.assertEqual((other.known(), other.told()), (heard.known(), heard.told()))

    def test_by_lot(self):
        outcomes = {}
        for _ in range(40):
            pairs = [(self.KIND(name, among=NAMES), Told(name, NAMES)) for name in NAMES]
            for one, told in pairs:
                one.hear_all(self.FIRST)
                told.deeds += self.FIRST
            for _ in range(32):
                one, told = self.any_of(*pairs)
                word, places, names = self.call(told)
                wanted = self.outcome(getattr(told, word), *places, **names)
                self.assertEqual(repr(self.outcome(getattr(one, word), *places, **names)), repr(wanted))
                outcomes[word, wanted[0] if isinstance(wanted, tuple) else "made"] = True
                self.hand_on(one, told, *self.any_of(*pairs))
        # Each edit was made, and each refusal of it met.
        for word, kinds in (
            ("put", "made NoPath NoPlace NoWhat"), ("write", "made NoPath NoPlace NoWhat"), ("give", "made NoPath NoPlace NoWhat"), ("move", "made NoPath NoPlace NoWhat Ring"),
            ("take", "made NoPath"), ("erase", "made NoPath NoPlace"), ("undo", "made Unknown Settled Nothing"), ("again", "made Nothing"), ("seen", "made NotKnown"),
        ):
            for kind in kinds.split():
                self.assertIn((word, kind), outcomes)


class KeeperPuts(Puts):
    KIND = Keeper


class KeeperGives(Gives):
    KIND = Keeper


class KeeperMoves(Moves):
    KIND = Keeper


if __name__ == "__main__":
    unittest.main()
