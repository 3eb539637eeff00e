"""Point 21, of 22 what it says of beside, and of 4, 11, 13 to 15, 17 and 18 what they say of what is shown."""

import inspect
import unittest

from heardalike import shows
from heardalike.errors import HeardError, NoPath
from heardalike.places import lies, skipped
from heardalike.shows import beside, shown
from heardalike.stamps import ROOT, is_field
from heardalike.standing import BARE
from tests.grounds import ABOVE, BELOW, GROUND
from tests.model import Model
from tests.sets import drawn, orders, read, row_of
from tests.things import ANYTHING, HUGE, Sour, Sweet, deep_tuple, ring_list
from tests.values import holders, spoil, strict

SCENE = read(
    "1.ann 0 put 0. o object",
    "2.bob 0 put 1.ann l list",
    "3.ann 1 put 2.bob 0. leaf 3",
    "4.cy 0 put 2.bob 3.ann text",
    "5.cy 4 put 4.cy 0. sign x",
    "6.ann 3 put 4.cy 5.cy sign y",
    "7.bob 2 put 2.bob 0. object",
    "8.bob 7 put 7.bob z leaf none",
    "9.ann 6 put 0. v leaf -9",
    "10.ann 9 put 0. t text",
    "11.cy 5 put 2.bob 4.cy list",
    "12.cy 11 put 11.cy 0. leaf yes",
    "13.cy 12 put 0. e object",
    "14.cy 13 put 0. f list",
)
VALUE = {"o": {"l": [{"z": None}, 3, "xy", [True]]}, "v": -9, "t": "", "e": {}, "f": []}


class Showing(unittest.TestCase):
    def shows(self, deeds, value, ground=BARE):
        """In whatever order they are handed in this is shown."""
        for handed in orders(deeds, 2):
            self.assertEqual(strict(shown(handed, ground=ground)), strict(value))

    def lie_beside(self, deeds, path, field, values, ground=BARE):
        for handed in orders(deeds, 2):
            self.assertEqual(strict(beside(handed, path, field, ground=ground)), strict(values))

    def refused(self, deeds, path, step, ground=BARE):
        """The path is refused at this step, whatever the field is."""
        for field in ("a", "zz", None):
            with self.assertRaises(HeardError) as caught:
                beside(deeds, path, field, ground=ground)
            self.assertIs(type(caught.exception), NoPath)
            told = caught.exception.path
            self.assertIs(type(told), list)
            self.assertIsNot(told, path)
            self.assertEqual([id(one) for one in told], [id(one) for one in path])
            self.assertEqual(strict(caught.exception.step), strict(step))


class Values(Showing):
    def test_no_deeds(self):
        self.shows([], {})

    def test_holders_leaves_and_signs_at_several_depths(self):
        self.shows(SCENE, VALUE)

    def test_holders_with_nothing_in_them(self):
        self.shows(read("1.ann 0 put 0. a object", "2.ann 1 put 0. b list", "3.ann 2 put 0. c text"), {"a": {}, "b": [], "c": ""})
        deeds = read("1.ann 0 put 0. a list", "2.ann 1 put 1.ann 0. text", "3.ann 2 put 1.ann 0. list", "4.ann 3 put 1.ann 0. object")
        self.shows(deeds, {"a": [{}, [], ""]})

    def test_leaves_are_told_apart(self):
        words = [("put", ROOT, field, ("leaf", v)) for field, v in zip("abcde", (None, True, False, 0, 1))]
        self.shows(row_of("ann", words), {"a": None, "b": True, "c": False, "d": 0, "e": 1})
        words = [("put", ROOT, "a", ("list",)), *[("put", (1, "ann"), ROOT, ("leaf", v)) for v in (1, True, 0, False, None)]]
        self.shows(row_of("ann", words), {"a": [None, False, 0, True, 1]})

    def test_leaves_are_told_apart_beside_a_ground(self):
        for v in (None, True, False, 0, 1, 10 ** 30 - 1):
            ground = (1, ((1, "ann"),), (((1, "ann"), ("leaf", v), True, (ROOT, "a", (1, "ann"))),), ())
            self.shows([], {"a": v}, ground)

    def test_numbers_of_thirty_figures(self):
        great = 10 ** 30 - 1
        words = [("put", ROOT, "a", ("leaf", great)), ("put", ROOT, "b", ("leaf", -great)), ("put", ROOT, "c", ("leaf", 10 ** 29))]
        self.shows(row_of("ann", words), {"a": great, "b": -great, "c": 10 ** 29})

    def test_signs(self):
        text = " \"\\~!'{}[]/\\\\\"\"  aZ09"
        words = [("put", ROOT, "t", ("text",)), *[("put", (1, "ann"), (at, "ann") if at > 1 else ROOT, ("sign", one)) for at, one in enumerate(text, 1)]]
        self.shows(row_of("ann", words), {"t": text})

    def test_a_text_with_signs_put_in_at_the_beginning_and_between(self):
        deeds = read("1.ann 0 put 0. t text", "2.ann 1 put 1.ann 0. sign b", "3.ann 2 put 1.ann 2.ann sign d", "4.bob 0 put 1.ann 0. sign a")
        self.shows(deeds, {"t": "abd"})
        self.shows([*deeds, *read("5.bob 4 put 1.ann 2.ann sign c")], {"t": "abcd"})
        self.shows([*deeds, *read("5.bob 4 put 1.ann 2.ann sign c", "5.cy 0 put 1.ann 2.ann sign C", "6.cy 5 put 1.ann 3.ann sign e")], {"t": "abCcde"})

    def test_two_words_written_at_once_stay_in_a_row(self):
        one = row_of("ann", [("put", (1, "zoe"), (at, "ann") if at > 1 else ROOT, ("sign", sign)) for at, sign in enumerate("hello", 1)], 2)
        other = row_of("bob", [("put", (1, "zoe"), (at, "bob") if at > 1 else ROOT, ("sign", sign)) for at, sign in enumerate("WORLD", 1)], 2)
        self.shows([*read("1.zoe 0 put 0. t text"), *one, *other], {"t": "WORLDhello"})

    def test_lists_within_lists(self):
        deeds = read(
            "1.ann 0 put 0. a list", "2.ann 1 put 1.ann 0. list", "3.ann 2 put 1.ann 2.ann list", "4.ann 3 put 2.ann 0. leaf 4",
            "5.ann 4 put 3.ann 0. list", "6.ann 5 put 5.ann 0. leaf 6", "7.ann 6 put 1.ann 0. object", "8.ann 7 put 7.ann a list",
        )
        self.shows(deeds, {"a": [{"a": []}, [4], [[6]]]})

    def test_what_waits_is_not_shown(self):
        self.shows([*SCENE, *read("16.ann 15 put 0. w leaf 1", "17.dan 0 put 0. w sign x", "18.dan 17 put 2.bob 0. leaf 14", "19.eve 0 take 18.zoe")], VALUE)
        self.shows(read("2.ann 1 put 0. a leaf 2"), {})


class Changes(Showing):
    def test_moves(self):
        self.shows([*SCENE, *read("15.ann 10 move 4.cy 1.ann t")], {**VALUE, "o": {"l": [{"z": None}, 3, [True]], "t": "xy"}})
        self.shows([*SCENE, *read("15.ann 10 move 2.bob 0. o")], {**VALUE, "o": [{"z": None}, 3, "xy", [True]]})
        self.shows([*SCENE, *read("15.ann 10 move 5.cy 10.ann 0.")], {**VALUE, "o": {"l": [{"z": None}, 3, "y", [True]]}, "t": "x"})
        self.shows([*SCENE, *read("15.ann 10 move 7.bob 2.bob 11.cy")], {**VALUE, "o": {"l": [3, "xy", [True], {"z": None}]}})
        self.shows([*SCENE, *read("15.ann 10 move 9.ann 13.cy a", "15.bob 8 move 13.cy 14.cy 0.")], {"o": VALUE["o"], "t": "", "f": [{"a": -9}]})

    def test_a_skipped_move_does_nothing(self):
        deeds = [*SCENE, *read("15.ann 10 move 1.ann 7.bob me")]
        self.assertEqual([one for one, _ in skipped(deeds)], [(15, "ann")])
        self.shows(deeds, VALUE)
        ring = read("1.ann 0 put 0. a object", "2.ann 1 put 0. b object", "3.ann 2 move 1.ann 2.ann a", "3.bob 0 move 2.ann 1.ann b")
        self.shows(ring, {"b": {"a": {}}})
        self.shows([*ring, *read("4.cy 0 undo 3.ann")], {"a": {"b": {}}})

    def test_takes(self):
        self.shows([*SCENE, *read("15.ann 10 take 1.ann")], {"v": -9, "t": "", "e": {}, "f": []})
        self.shows([*SCENE, *read("15.ann 10 take 3.ann", "16.ann 15 take 6.ann")], {**VALUE, "o": {"l": [{"z": None}, "x", [True]]}})
        self.shows([*SCENE, *read("15.ann 10 take 1.ann", "16.ann 15 move 4.cy 0. x")], {"v": -9, "t": "", "e": {}, "f": [], "x": "xy"})
        self.shows([*SCENE, *read("15.ann 10 take 1.ann", "16.ann 15 move 1.ann 0. o")], VALUE)

    def test_undos(self):
        self.shows([*SCENE, *read("15.ann 10 undo 1.ann")], {"v": -9, "t": "", "e": {}, "f": []})
        self.shows([*SCENE, *read("15.ann 10 undo 5.cy")], {**VALUE, "o": {"l": [{"z": None}, 3, "y", [True]]}})
        self.shows([*SCENE, *read("15.ann 10 undo 1.ann", "16.bob 8 undo 15.ann")], VALUE)
        self.shows([*SCENE, *read("15.ann 10 take 1.ann", "16.bob 8 undo 15.ann")], VALUE)
        self.shows([*SCENE, *read("15.ann 10 move 2.bob 0. v", "16.bob 8 undo 15.ann")], VALUE)

    def test_an_undo_undoes_just_its_deed(self):
        deeds = [*SCENE, *read("15.ann 10 move 2.bob 0. m", "16.ann 15 put 2.bob 0. leaf 16", "17.bob 8 undo 15.ann")]
        self.shows(deeds, {**VALUE, "o": {"l": [16, {"z": None}, 3, "xy", [True]]}})

    def test_things_in_what_is_not_in_the_tree(self):
        deeds = read("1.ann 0 put 0. a object", "2.ann 1 put 1.ann b list", "3.ann 2 put 2.ann 0. leaf 3", "4.bob 0 put 2.ann 3.ann leaf 4")
        self.shows(deeds, {"a": {"b": [3, 4]}})
        for more in ("5.cy 0 undo 1.ann", "5.cy 0 take 1.ann"):
            self.shows([*deeds, *read(more)], {})
            self.shows([*deeds, *read(more, "6.cy 5 put 1.ann c leaf 6")], {})
            self.shows([*deeds, *read(more, "6.cy 5 move 2.ann 0. c")], {"c": [3, 4]})
        for more in ("5.cy 0 undo 2.ann", "5.cy 0 take 2.ann"):
            self.shows([*deeds, *read(more)], {"a": {}})
            self.shows([*deeds, *read(more, "6.cy 5 move 4.bob 1.ann c")], {"a": {"c": 4}})

    def test_a_hundred_holders_each_in_the_one_ahead(self):
        for many in (100, 120, 150):
            for what, place in ((("list",), ROOT), (("object",), "a")):
                deeds = row_of("ann", [("put", ROOT, "a", what)] + [("put", (at, "ann"), place, what) for at in range(1, many)])
                for handed in orders(deeds, 1):
                    value = shown(handed)
                    for _ in range(many - 1):
                        value, = value.values() if type(value) is dict else value
                    self.assertEqual(strict(value), strict({"a": {}} if place == "a" else [[]]))

    def test_objects_and_lists_by_turns(self):
        words = [("put", (at, "ann") if at else ROOT, ROOT if at % 2 else "a", ("object",) if at % 2 else ("list",)) for at in range(119)]
        value = shown(row_of("ann", [*words, ("put", (119, "ann"), ROOT, ("leaf", 7))]))
        for at in range(60):
            self.assertEqual([type(value), list(value)], [dict, ["a"]])
            self.assertEqual([type(value["a"]), len(value["a"])], [list, 1])
            value = value["a"][0]
        self.assertEqual(value, 7)


class AtOneField(Showing):
    DEEDS = read("1.ann 0 put 0. a leaf 1", "1.bob 0 put 0. a leaf 2", "2.cy 0 put 0. a list", "3.cy 2 put 2.cy 0. leaf 3", "4.dan 0 put 0. b leaf 4")

    def held(self, more, value, values):
        self.shows([*self.DEEDS, *read(*more)], value)
        self.lie_beside([*self.DEEDS, *read(*more)], [], "a", values)

    def test_none_and_one(self):
        self.lie_beside([], [], "a", [])
        self.lie_beside(self.DEEDS[:1], [], "a", [])
        self.lie_beside(self.DEEDS, [], "b", [])
        self.lie_beside(self.DEEDS, [], "c", [])

    def test_two_and_more(self):
        self.shows(self.DEEDS[:2], {"a": 2})
        self.lie_beside(self.DEEDS[:2], [], "a", [1])
        self.held((), {"a": [3], "b": 4}, [2, 1])
        self.held(("5.eve 0 put 0. a leaf 5",), {"a": 5, "b": 4}, [[3], 2, 1])
        self.held(("5.eve 0 put 0. a leaf 5", "6.eve 5 put 2.cy 3.cy leaf 6", "6.fay 0 put 0. a text"), {"a": "", "b": 4}, [5, [3, 6], 2, 1])

    def test_the_first_one_taken_moved_away_or_undone(self):
        self.held(("5.eve 0 take 2.cy",), {"a": 2, "b": 4}, [1])
        self.held(("5.eve 0 undo 2.cy",), {"a": 2, "b": 4}, [1])
        self.held(("5.eve 0 move 2.cy 0. b",), {"a": 2, "b": [3]}, [1])
        self.lie_beside([*self.DEEDS, *read("5.eve 0 move 2.cy 0. b")], [], "b", [4])
        self.held(("5.eve 0 take 2.cy", "6.eve 5 take 1.bob", "7.eve 6 take 1.ann"), {"b": 4}, [])
        self.held(("5.eve 0 take 1.bob",), {"a": [3], "b": 4}, [1])

    def test_one_moved_to_where_it_lies_goes_first(self):
        self.held(("5.eve 0 move 1.ann 0. a",), {"a": 1, "b": 4}, [[3], 2])
        self.held(("5.eve 0 move 1.ann 0. a", "6.fay 0 undo 5.eve"), {"a": [3], "b": 4}, [2, 1])
        self.held(("5.eve 0 move 1.ann 0. a", "6.fay 0 move 1.bob 0. a"), {"a": 2, "b": 4}, [1, [3]])

    def test_what_lies_in_what_lies_beside(self):
        deeds = read("1.ann 0 put 0. a object", "2.ann 1 put 1.ann x object", "3.ann 2 put 2.ann y leaf 3", "4.bob 0 put 0. a object", "5.bob 4 put 4.bob x leaf 5")
        self.shows(deeds, {"a": {"x": 5}})
        self.lie_beside(deeds, [], "a", [{"x": {"y": 3}}])
        self.lie_beside(deeds, ["a"], "x", [])

    def test_at_several_depths(self):
        deeds = read(
            "1.ann 0 put 0. a list", "2.ann 1 put 1.ann 0. object", "3.ann 2 put 2.ann x leaf 3", "4.ann 3 put 2.ann x leaf 4", "5.ann 4 put 2.ann y object",
            "6.ann 5 put 5.ann x leaf 6", "7.ann 6 put 5.ann x text", "8.ann 7 put 5.ann x object", "9.ann 8 put 7.ann 0. sign q",
        )
        self.shows(deeds, {"a": [{"x": 4, "y": {"x": {}}}]})
        self.lie_beside(deeds, ["a", 0], "x", [3])
        self.lie_beside(deeds, ["a", 0, "y"], "x", ["q", 6])
        self.lie_beside(deeds, [], "x", [])

    def test_counts_are_compared_as_numbers(self):
        deeds = read("9.ann 0 put 0. a leaf 1", "10.ann 9 put 0. a leaf 2", "9.bob 0 put 0. a leaf 3")
        self.shows(deeds, {"a": 2})
        self.lie_beside(deeds, [], "a", [3, 1])

    def test_a_hundred_at_one_field(self):
        deeds = row_of("ann", [("put", ROOT, "a", ("leaf", at)) for at in range(120)])
        self.shows(deeds, {"a": 119})
        self.lie_beside(deeds, [], "a", list(range(118, -1, -1)))

    def test_a_deep_one_beside(self):
        deeds = row_of("ann", [("put", ROOT, "a", ("list",))] + [("put", (at, "ann"), ROOT, ("list",)) for at in range(1, 118)] + [("put", ROOT, "a", ("leaf", 1))])
        self.shows(deeds, {"a": 1})
        value, = beside(deeds, [], "a")
        for _ in range(117):
            value, = value
        self.assertEqual(value, [])


class NoPaths(Showing):
    LED = [([], "object"), (["o"], "object"), (["o", "l"], "list"), (["o", "l", 0], "object"), (["o", "l", 1], "leaf"), (["o", "l", 2], "text"), (["o", "l", 2, 0], "sign")]

    def test_paths_to_what_is_no_object(self):
        for path, kind in [*self.LED, (["v"], "leaf"), (["t"], "text"), (["f"], "list"), (["o", "l", 3], "list"), (["o", "l", 3, 0], "leaf"), (["o", "l", 0, "z"], "leaf")]:
            if kind == "object":
                self.lie_beside(SCENE, path, "x", [])
            else:
                self.refused(SCENE, path, len(path))

    def test_steps_of_any_kind_at_each_place(self):
        things = [*ANYTHING, Sour(), Sweet(), deep_tuple(), ring_list(), HUGE, "zz", 7, "O", "l ", "0", "1"]
        for path, _ in self.LED:
            for thing in things:
                if isinstance(thing, str) and is_field(thing) or isinstance(thing, int) and thing in (0, 1, 2, 3):
                    continue
                self.refused(SCENE, [*path, thing], len(path))
                for at in range(len(path)):
                    self.refused(SCENE, [*path[:at], thing, *path[at + 1:]], at)

    def test_paths_that_lead_nowhere(self):
        for path, step in ((["x"], 0), ([0], 0), (["o", "x"], 1), (["o", "l", 4], 2), (["o", "l", -1], 2), (["o", "l", True], 2), (["o", "l", "z"], 2), (["v", "a"], 1), (["t", 0], 1)):
            self.refused(SCENE, path, step)
        self.refused([], ["a"], 0)

    def test_fields_of_any_kind(self):
        for field in (*ANYTHING, Sour(), Sweet()):
            for path in ([], ["o"]):
                self.assertEqual(beside(SCENE, path, field), [])
        self.assertEqual(beside(AtOneField.DEEDS, [], "a"), [2, 1])
        for field in ("", "A", "a ", b"a", ("a",), ["a"], Sweet()):
            self.assertEqual(beside(AtOneField.DEEDS, [], field), [])


class Beside(Showing):
    def test_the_ground_alone(self):
        self.shows([], {"a": {}, "b": [5, 8], "c": "x"}, GROUND)
        self.lie_beside([], [], "a", [], GROUND)

    def test_later_deeds(self):
        self.shows(ABOVE, {"a": {}, "b": [5, 14, 8], "c": "x"}, GROUND)
        self.lie_beside(ABOVE, [], "a", [{}], GROUND)
        self.assertEqual(shown(ABOVE, ground=GROUND), shown(BELOW + ABOVE))
        self.assertEqual(beside(ABOVE, [], "a", ground=GROUND), beside(BELOW + ABOVE, [], "a"))

    def test_things_of_the_ground_moved_and_taken(self):
        self.shows(read("11.cy 0 move 5.ann 1.ann x", "12.cy 11 move 2.ann 1.ann y"), {"a": {"x": 5, "y": [8]}, "c": "x"}, GROUND)
        self.shows(read("11.cy 0 take 1.ann", "12.cy 11 take 8.bob"), {"b": [5], "c": "x"}, GROUND)
        self.shows(read("11.cy 0 move 6.bob 1.ann e"), {"a": {"e": {}}, "b": [5, 8], "c": "x"}, GROUND)
        self.shows(read("11.cy 0 move 4.bob 0. d"), {"a": {}, "b": [5, 8], "c": "x"}, GROUND)
        self.shows(read("11.cy 0 move 1.ann 0. a", "12.cy 11 undo 11.cy"), {"a": {}, "b": [5, 8], "c": "x"}, GROUND)

    def test_new_things_in_its_holders_among_its_positions(self):
        deeds = read("11.cy 0 put 2.ann 0. leaf 11", "12.cy 11 put 2.ann 7.ann leaf 12", "13.cy 12 put 2.ann 8.bob leaf 13", "14.cy 13 put 2.ann 5.ann leaf 14")
        self.shows(deeds, {"a": {}, "b": [11, 5, 12, 14, 8, 13], "c": "x"}, GROUND)
        deeds = read("11.cy 0 put 3.bob 0. sign a", "12.cy 11 put 3.bob 6.ann sign z", "13.cy 12 put 1.ann f list", "14.cy 13 put 13.cy 0. leaf no")
        self.shows(deeds, {"a": {"f": [False]}, "b": [5, 8], "c": "axz"}, GROUND)

    def test_later_ones_go_first_at_a_field(self):
        self.shows(read("11.cy 0 put 0. a leaf 1"), {"a": 1, "b": [5, 8], "c": "x"}, GROUND)
        self.lie_beside(read("11.cy 0 put 0. a leaf 1"), [], "a", [{}], GROUND)
        self.lie_beside(read("11.cy 0 move 2.ann 0. c", "12.cy 11 move 1.ann 0. c"), [], "c", [[5, 8], "x"], GROUND)

    def test_paths(self):
        for path, step in ((["d"], 0), (["b"], 1), (["c"], 1), (["b", 0], 2), (["c", 0], 2), (["a", "e"], 1), (["b", 3], 1)):
            self.refused(ABOVE, path, step, GROUND)

    def test_bare_and_none_are_one(self):
        for seed in range(5):
            deeds = drawn(seed)
            self.assertEqual(strict(shown(deeds)), strict(shown(deeds, ground=BARE)))
            self.assertEqual(strict(shown(deeds)), strict(shown(deeds, ground=(0, (), (), ()))))


class AsIfItDidNothing(Showing):
    def test_a_deed_and_its_undo_more(self):
        tried = 0
        for seed in range(40):
            deeds = drawn(seed)
            model = Model(deeds)
            value = strict(shown(deeds))
            last = max(deed[0][0] for deed in deeds)
            things = [thing for thing in model.all_things() if model.what(thing)[0] != "sign"]
            rows = [thing for thing in model.rows_of_positions() if model.what(thing) == ("list",)]
            for at in things[:3]:
                every = [("put", ROOT, "a", ("object",)), ("move", at, ROOT, "b"), ("take", at), ("undo", at), *[("move", at, row, ROOT) for row in rows if row < at]]
                for words in every:
                    for count in (at[0] + 1, last + 1):
                        more = [((count, "zoe"), 0, words), ((last + 2, "zoe"), count, ("undo", (count, "zoe")))]
                        self.assertEqual(strict(shown(deeds + more)), value)
                        again = [*more, ((last + 3, "zoe"), last + 2, ("undo", (last + 2, "zoe")))]
                        self.assertEqual(strict(shown(deeds + again)), strict(shown(deeds + more[:1])))
                        tried += 1
        self.assertGreater(tried, 500)

    def test_beside_a_ground(self):
        value = shown(ABOVE, ground=GROUND)
        for text in ("15.zoe 0 take 2.ann", "15.zoe 0 move 2.ann 1.ann x", "15.zoe 0 put 2.ann 7.ann leaf 1", "15.zoe 0 put 0. b leaf 1", "15.zoe 0 undo 14.cy"):
            more = read(text, "16.zoe 15 undo 15.zoe")
            self.assertNotEqual(shown(ABOVE + more[:1], ground=GROUND), value)
            self.shows(ABOVE + more, value, GROUND)
            self.shows([*ABOVE, *more, *read("17.zoe 16 undo 16.zoe")], shown(ABOVE + more[:1], ground=GROUND), GROUND)

    def test_order_stays_whatever_is_undone(self):
        for seed in range(20):
            deeds = drawn(seed)
            last = max(deed[0][0] for deed in deeds)
            undos = [((last + 1 + at, "zoe"), last + at if at else 0, ("undo", deed[0])) for at, deed in enumerate(Model(deeds).standing()) if deed[2][0] in ("move", "take")]
            self.assertEqual(strict(shown(deeds + undos)), strict(Model(deeds + undos).shown()))


class Drawn(Showing):
    def held(self, deeds, model, ground=BARE):
        self.assertEqual(strict(shown(deeds, ground=ground)), strict(model.shown()))
        for path, thing in model.paths():
            if thing == ROOT or model.what(thing) == ("object",):
                for field in ("a", "b", "c"):
                    self.assertEqual(strict(beside(deeds, path, field, ground=ground)), strict(model.beside(thing, field)))
            else:
                self.refused(deeds, path, len(path), ground)

    def test_as_the_document_says(self):
        for seed in range(40):
            deeds = drawn(seed)
            for handed in orders(deeds, 1):
                self.held(handed, Model(deeds))

    def test_beside_grounds_as_in_the_whole_set(self):
        for seed in range(15):
            deeds = drawn(seed)
            model = Model(deeds)
            for upto in range(1, max(deed[0][0] for deed in deeds) + 1):
                if model.is_clean(upto):
                    above = [deed for deed in deeds if deed[0][0] > upto]
                    self.held(above, model, model.ground(upto))
                    self.assertEqual(strict(Model(above, model.ground(upto)).shown()), strict(model.shown()))

    def test_each_thing_in_the_tree_is_shown_once_or_lies_beside(self):
        for seed in range(20):
            deeds = drawn(seed)
            model = Model(deeds)
            there = [thing for thing in lies(deeds) if model.in_tree(thing) and model.what(thing)[0] in ("object", "list")]
            told = [one for value in [shown(deeds), *self.all_beside(deeds, model)] for one in holders(value)]
            self.assertEqual(len(told), len(there) + 1)

    def all_beside(self, deeds, model):
        """What lies beside another one, also within what lies so."""
        holds = [ROOT, *[thing for thing in lies(deeds) if model.in_tree(thing) and model.what(thing) == ("object",)]]
        return [value for thing in holds for field in ("a", "b") for value in model.beside(thing, field)]


class Handing(unittest.TestCase):
    SETS = [(list(reversed(SCENE)), BARE), (list(ABOVE), GROUND), ([], BARE), ([], GROUND), (drawn(3), BARE)]

    def test_what_is_handed_in_stays(self):
        for deeds, ground in self.SETS:
            path, wrong = [], ["o", [1], {"a": 1}]
            ahead = repr((deeds, ground, path, wrong))
            shown(deeds, ground=ground)
            beside(deeds, path, "a", ground=ground)
            with self.assertRaises(NoPath):
                beside(deeds, wrong, "a", ground=ground)
            self.assertEqual(repr((deeds, ground, path, wrong)), ahead)

    def test_what_is_told_is_the_askers_own(self):
        for deeds, ground in self.SETS:
            value = shown(deeds, ground=ground)
            kept = strict(value)
            spoil(value)
            self.assertEqual(strict(shown(deeds, ground=ground)), kept)
            values = beside(deeds, [], "a", ground=ground)
            kept = strict(values)
            spoil(values)
            self.assertEqual(strict(beside(deeds, [], "a", ground=ground)), kept)

    def test_no_two_of_one_answer_are_one(self):
        deeds = read(
            "1.ann 0 put 0. a list", "2.ann 1 put 0. b list", "3.ann 2 put 1.ann 0. object", "4.ann 3 put 1.ann 0. object", "5.ann 4 put 2.ann 0. list",
            "6.ann 5 put 0. a object", "7.ann 6 put 6.ann x object", "8.ann 7 put 0. a object", "9.ann 8 put 8.ann x object",
        )
        for value in (shown(deeds), shown(deeds[:5]), beside(deeds, [], "a"), shown(SCENE), shown(drawn(5))):
            told = holders(value)
            self.assertEqual(len({id(one) for one in told}), len(told))

    def test_a_list_changed_behind_the_call_has_no_bearing(self):
        deeds = list(SCENE)
        value = shown(deeds)
        values = beside(AtOneField.DEEDS, [], "a")
        deeds.clear()
        self.assertEqual(strict(value), strict(VALUE))
        self.assertEqual(values, [2, 1])

    def test_kinds(self):
        self.assertIs(type(shown([])), dict)
        self.assertIs(type(beside([], [], "a")), list)

    def test_the_path_of_a_refusal_is_its_own(self):
        path = ["o", "x"]
        with self.assertRaises(NoPath) as caught:
            beside(SCENE, path, "a")
        caught.exception.path.append(1)
        self.assertEqual(path, ["o", "x"])
        path.clear()
        self.assertEqual(caught.exception.path, ["o", "x", 1])

    def test_arguments_by_their_names(self):
        self.assertEqual(shown(ground=GROUND, deeds=ABOVE), shown(ABOVE, ground=GROUND))
        self.assertEqual(beside(field="a", ground=GROUND, path=[], deeds=ABOVE), [{}])
        with self.assertRaises(TypeError):
            shown(ABOVE, GROUND)
        with self.assertRaises(TypeError):
            beside(ABOVE, [], "a", GROUND)

    def test_the_interface(self):
        for name, parameters in (("shown", "deeds"), ("beside", "deeds, path, field")):
            told = getattr(shows, name)
            self.assertEqual(told.__module__, "heardalike.shows")
            self.assertEqual(str(inspect.signature(told)), f"({parameters}, *, ground=(0, (), (), ()))")


if __name__ == "__main__":
    unittest.main()
