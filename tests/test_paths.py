"""Point 22, and of 21 what is first, what lies beside it, and in which order things are shown."""

import inspect
import unittest

from heardalike import paths
from heardalike.errors import HeardError, NoPath
from heardalike.paths import path_of, thing_at
from heardalike.stamps import ROOT, is_field
from heardalike.standing import BARE
from tests.grounds import ABOVE, GROUND
from tests.model import Model
from tests.sets import drawn, orders, read, row_of, stamp, stamps
from tests.things import ANYTHING, HUGE, Sour, Sweet, deep_tuple, ring_list

DEEDS = read(
    "1.ann 0 put 0. o object",
    "2.ann 1 put 1.ann l list",
    "3.ann 2 put 2.ann 0. leaf 3",
    "4.ann 3 put 2.ann 3.ann text",
    "5.ann 4 put 4.ann 0. sign x",
    "6.ann 5 put 4.ann 5.ann sign y",
    "7.ann 6 put 2.ann 0. object",
    "8.ann 7 put 7.ann z leaf none",
    "9.ann 8 put 0. v leaf 9",
    "10.ann 9 put 0. t text",
)
LED = [
    ([], "0."), (["o"], "1.ann"), (["o", "l"], "2.ann"), (["o", "l", 0], "7.ann"), (["o", "l", 1], "3.ann"), (["o", "l", 2], "4.ann"),
    (["o", "l", 2, 0], "5.ann"), (["o", "l", 2, 1], "6.ann"), (["o", "l", 0, "z"], "8.ann"), (["v"], "9.ann"), (["t"], "10.ann"),
]


class Paths(unittest.TestCase):
    def led(self, deeds, rows, ground=BARE):
        """These paths lead to these things, and back."""
        for handed in orders(deeds, 2):
            for path, thing in rows:
                self.assertEqual(thing_at(handed, path, ground=ground), stamp(thing), path)
                self.assertEqual(path_of(handed, stamp(thing), ground=ground), path, thing)

    def refused(self, deeds, path, step, ground=BARE):
        """The path is refused at this step, and nothing is changed."""
        kept = list(path)
        with self.assertRaises(HeardError) as caught:
            thing_at(deeds, path, ground=ground)
        self.assertIs(type(caught.exception), NoPath)
        told = caught.exception.path
        self.assertIs(type(told), list)
        self.assertIsNot(told, path)
        self.assertEqual(len(told), len(kept))
        for one, other, third in zip(told, kept, path):
            self.assertIs(one, other)
            self.assertIs(third, other)
        self.assertEqual(caught.exception.step, step)
        self.assertIs(type(caught.exception.step), int)

    def away(self, deeds, things, ground=BARE):
        """No path leads to these things."""
        for thing in stamps(things):
            self.assertIsNone(path_of(deeds, thing, ground=ground), thing)


class There(Paths):
    def test_no_deeds(self):
        self.led([], [([], "0.")])
        self.away([], "1.ann")

    def test_through_objects_lists_and_texts(self):
        self.led(DEEDS, LED)

    def test_each_path_is_a_list_of_its_own_kinds(self):
        for path, thing in LED:
            told = path_of(DEEDS, stamp(thing))
            self.assertIs(type(told), list)
            self.assertEqual([type(step) for step in told], [type(step) for step in path])

    def test_the_greatest_position_is_the_first_at_a_field(self):
        deeds = read("1.ann 0 put 0. a leaf 1", "1.bob 0 put 0. a leaf 2", "1.cy 0 put 0. b leaf 3")
        self.led(deeds, [(["a"], "1.bob"), (["b"], "1.cy")])
        self.away(deeds, "1.ann")
        moved = [*deeds, *read("2.ann 1 move 1.ann 0. a")]
        self.led(moved, [(["a"], "1.ann"), (["b"], "1.cy")])
        self.away(moved, "1.bob")
        self.led([*moved, *read("3.cy 1 move 1.cy 0. a")], [(["a"], "1.cy")])
        self.away([*moved, *read("3.cy 1 move 1.cy 0. a")], "1.ann 1.bob")
        self.led([*moved, *read("3.cy 1 take 1.ann")], [(["a"], "1.bob"), (["b"], "1.cy")])
        self.led([*moved, *read("3.cy 1 undo 1.ann")], [(["a"], "1.bob"), (["b"], "1.cy")])
        self.led([*moved, *read("3.cy 1 undo 2.ann")], [(["a"], "1.bob"), (["b"], "1.cy")])
        self.led([*moved, *read("3.cy 1 move 1.ann 0. b")], [(["a"], "1.bob"), (["b"], "1.ann")])

    def test_counts_are_compared_as_numbers(self):
        deeds = read("9.ann 0 put 0. a leaf 1", "10.ann 9 put 0. a leaf 2", "9.bob 0 put 0. a leaf 3")
        self.led(deeds, [(["a"], "10.ann")])
        self.away(deeds, "9.ann 9.bob")

    def test_the_same_field_of_several_holders(self):
        deeds = read("1.ann 0 put 0. a object", "2.ann 1 put 1.ann a object", "3.ann 2 put 2.ann a leaf 3", "4.ann 3 put 2.ann b leaf 4")
        self.led(deeds, [(["a"], "1.ann"), (["a", "a"], "2.ann"), (["a", "a", "a"], "3.ann"), (["a", "a", "b"], "4.ann")])

    def test_in_what_lies_beside(self):
        deeds = read("1.ann 0 put 0. a object", "2.ann 1 put 1.ann x list", "3.ann 2 put 2.ann 0. leaf 3", "4.bob 0 put 0. a object", "5.bob 4 put 4.bob x leaf 5")
        self.led(deeds[:3], [(["a", "x", 0], "3.ann"), (["a", "x"], "2.ann")])
        self.led(deeds, [(["a"], "4.bob"), (["a", "x"], "5.bob")])
        self.away(deeds, "1.ann 2.ann 3.ann")
        self.refused(deeds, ["a", "x", 0], 2)

    def test_in_what_is_not_in_the_tree(self):
        deeds = read("1.ann 0 put 0. a object", "2.ann 1 put 1.ann x list", "3.ann 2 put 2.ann 0. leaf 3", "4.ann 3 put 2.ann 3.ann leaf 4")
        for more in ("5.bob 0 take 1.ann", "5.bob 0 undo 1.ann"):
            self.away([*deeds, *read(more)], "1.ann 2.ann 3.ann 4.ann 5.bob")
            self.refused([*deeds, *read(more)], ["a"], 0)
        for more in ("5.bob 0 take 2.ann", "5.bob 0 undo 2.ann"):
            self.led([*deeds, *read(more)], [(["a"], "1.ann")])
            self.away([*deeds, *read(more)], "2.ann 3.ann 4.ann")
            self.refused([*deeds, *read(more)], ["a", "x", 0], 1)
        for more in ("5.bob 0 take 3.ann", "5.bob 0 undo 3.ann"):
            self.led([*deeds, *read(more)], [(["a"], "1.ann"), (["a", "x"], "2.ann"), (["a", "x", 0], "4.ann")])
            self.away([*deeds, *read(more)], "3.ann")
            self.refused([*deeds, *read(more)], ["a", "x", 1], 2)

    def test_what_waits_is_not_there(self):
        deeds = [*DEEDS, *read("12.ann 11 put 0. w leaf 1", "13.bob 0 put 0. w sign x", "14.bob 13 put 2.ann 0. leaf 14")]
        self.led(deeds, LED)
        self.refused(deeds, ["w"], 0)
        self.away(deeds, "12.ann 13.bob 14.bob")

    def test_the_order_of_a_list_is_that_of_the_positions_by_which_things_lie(self):
        deeds = read(
            "1.ann 0 put 0. a list", "2.ann 1 put 1.ann 0. leaf 2", "3.ann 2 put 1.ann 2.ann leaf 3", "4.ann 3 put 1.ann 3.ann leaf 4",
            "5.bob 0 move 2.ann 1.ann 4.ann", "6.cy 0 move 4.ann 1.ann 0.",
        )
        self.led(deeds[:4], [(["a", 0], "2.ann"), (["a", 1], "3.ann"), (["a", 2], "4.ann")])
        self.led(deeds[:5], [(["a", 0], "3.ann"), (["a", 1], "4.ann"), (["a", 2], "2.ann")])
        self.led(deeds, [(["a", 0], "4.ann"), (["a", 1], "3.ann"), (["a", 2], "2.ann")])
        self.led([*deeds, *read("7.dan 0 undo 3.ann")], [(["a", 0], "4.ann"), (["a", 1], "2.ann")])
        self.led([*deeds, *read("7.dan 0 put 1.ann 3.ann leaf 7")], [(["a", 0], "4.ann"), (["a", 1], "3.ann"), (["a", 2], "7.dan"), (["a", 3], "2.ann")])

    def test_a_hundred_steps(self):
        many = 120
        nest = row_of("ann", [("put", ROOT, "a", ("list",))] + [("put", (at, "ann"), ROOT, ("list",)) for at in range(1, many)])
        path = ["a", *[0] * (many - 1)]
        self.assertEqual(thing_at(nest, path), (many, "ann"))
        self.assertEqual(path_of(nest, (many, "ann")), path)
        self.refused(nest, [*path, 0], many)
        row = row_of("ann", [("put", ROOT, "a", ("text",))] + [("put", (1, "ann"), ROOT, ("sign", "x"))] * (many - 1))
        self.assertEqual([thing_at(row, ["a", at]) for at in range(many - 1)], [(many - at, "ann") for at in range(many - 1)])
        self.assertEqual([path_of(row, (many - at, "ann")) for at in range(many - 1)], [["a", at] for at in range(many - 1)])


class NotThere(Paths):
    def test_steps_of_any_kind_at_each_place(self):
        things = [*ANYTHING, Sour(), Sweet(), deep_tuple(), ring_list(), HUGE, "zz", 7, "O", "l ", "0", "1"]
        for path, _ in LED:
            for thing in things:
                if isinstance(thing, str) and is_field(thing) or isinstance(thing, int) and thing in (0, 1, 2):
                    continue
                self.refused(DEEDS, [*path, thing], len(path))
                self.refused(DEEDS, [*path, thing, "o", 0, None], len(path))
                for at in range(len(path)):
                    self.refused(DEEDS, [*path[:at], thing, *path[at + 1:]], at)

    def test_fields_where_nothing_lies(self):
        for path, step in ((["x"], 0), (["o", "x"], 1), (["l"], 0), (["o", "o"], 1), (["o", "z"], 1), (["x", "l"], 0), (["o", "x", 0, 0], 1)):
            self.refused(DEEDS, path, step)

    def test_numbers_that_are_too_great_or_below(self):
        for number in (3, 4, 10 ** 30, HUGE, -1, -2, -3, -HUGE):
            self.refused(DEEDS, ["o", "l", number], 2)
        for number in (2, 3, 10 ** 30, -1, -2):
            self.refused(DEEDS, ["o", "l", 2, number], 3)
        for number in (0, 1, -1):
            self.refused(DEEDS, ["t", number], 1)

    def test_truths_are_no_numbers(self):
        for truth in (True, False):
            self.refused(DEEDS, ["o", "l", truth], 2)
            self.refused(DEEDS, ["o", "l", 2, truth], 3)
            self.refused(DEEDS, ["o", "l", truth, 0], 2)

    def test_a_number_in_an_object_and_a_field_in_a_list(self):
        for path, step in (
            ([0], 0), ([1], 0), (["o", 0], 1), (["o", "l", "z"], 2), (["o", "l", "l"], 2), (["o", "l", 2, "a"], 3), (["o", "l", 0, 0], 3), (["t", "a"], 1),
        ):
            self.refused(DEEDS, path, step)

    def test_beyond_a_leaf_and_a_sign(self):
        for step in ("a", "v", 0, 1, None, ROOT, (9, "ann")):
            self.refused(DEEDS, ["v", step], 1)
            self.refused(DEEDS, ["o", "l", 1, step], 3)
            self.refused(DEEDS, ["o", "l", 2, 0, step], 4)

    def test_texts_with_other_fields(self):
        for step in ("", "O", " o", "o ", "o\n", "1", "_", "abcdefghijklm"):
            self.refused(DEEDS, [step], 0)
            self.refused(DEEDS, ["o", step], 1)

    def test_an_empty_field_leads_to_nothing_in_a_list(self):
        self.refused(DEEDS, ["o", "l", ""], 2)
        self.refused(DEEDS, ["t", ""], 1)

    def test_no_path_to_what_is_no_thing(self):
        deeds = [*DEEDS, *read("11.ann 10 move 3.ann 2.ann 0.", "12.ann 11 take 9.ann", "13.ann 12 undo 12.ann", "14.ann 13 seen 0")]
        self.away(deeds, "11.ann 12.ann 13.ann 14.ann 15.ann 1.bob 99.ann")
        self.assertEqual(path_of(deeds, (3, "ann")), ["o", "l", 0])

    def test_no_path_to_what_is_no_stamp(self):
        for thing in ((True, "ann"), (False, ""), None, [1, "ann"], Sour(), deep_tuple(), {}):
            self.assertIsNone(path_of(DEEDS, thing))


class Beside(Paths):
    def test_the_ground_alone(self):
        rows = [
            ([], "0."), (["a"], "1.ann"), (["b"], "2.ann"), (["c"], "3.bob"), (["b", 0], "5.ann"), (["b", 1], "8.bob"), (["c", 0], "6.ann"),
        ]
        self.led([], rows, GROUND)
        self.away([], "4.bob 6.bob 7.ann 9.ann 10.bob 1.cy", GROUND)
        for path, step in ((["d"], 0), (["a", "e"], 1), (["b", 2], 1), (["c", 1], 1), (["a", 0], 1), (["b", 0, 0], 2)):
            self.refused([], path, step, GROUND)

    def test_later_deeds(self):
        rows = [(["a"], "6.bob"), (["b"], "2.ann"), (["b", 0], "5.ann"), (["b", 1], "14.cy"), (["b", 2], "8.bob"), (["c", 0], "6.ann")]
        self.led(ABOVE, rows, GROUND)
        self.away(ABOVE, "1.ann 4.bob 12.bob 7.ann 13.ann", GROUND)
        self.refused(ABOVE, ["d"], 0, GROUND)

    def test_things_of_the_ground_that_are_moved(self):
        deeds = read("11.cy 0 move 5.ann 1.ann x", "12.cy 11 move 2.ann 1.ann y", "13.cy 12 put 2.ann 7.ann object", "14.cy 13 put 13.cy z leaf 1")
        rows = [(["a", "x"], "5.ann"), (["a", "y"], "2.ann"), (["a", "y", 0], "13.cy"), (["a", "y", 0, "z"], "14.cy"), (["a", "y", 1], "8.bob")]
        self.led(deeds, rows, GROUND)
        self.refused(deeds, ["b"], 0, GROUND)
        self.away([*deeds, *read("15.cy 14 take 1.ann")], "1.ann 2.ann 5.ann 8.bob 13.cy 14.cy", GROUND)

    def test_a_later_position_goes_ahead_of_the_grounds(self):
        self.led(read("11.cy 0 put 0. a leaf 1"), [(["a"], "11.cy")], GROUND)
        self.away(read("11.cy 0 put 0. a leaf 1"), "1.ann", GROUND)


class Drawn(unittest.TestCase):
    def held(self, deeds, model, ground=BARE):
        led = model.paths()
        for path, thing in led:
            self.assertEqual(thing_at(deeds, path, ground=ground), thing)
            self.assertEqual(path_of(deeds, thing, ground=ground), path)
        for thing in model.all_things():
            if thing not in [thing for _, thing in led]:
                self.assertIsNone(path_of(deeds, thing, ground=ground))

    def test_as_the_document_says(self):
        for seed in range(40):
            deeds = drawn(seed)
            for handed in orders(deeds, 1):
                self.held(handed, Model(deeds))

    def test_beside_grounds(self):
        for seed in range(15):
            deeds = drawn(seed)
            model = Model(deeds)
            for upto in range(1, max(deed[0][0] for deed in deeds) + 1):
                if model.is_clean(upto):
                    self.held([deed for deed in deeds if deed[0][0] > upto], model, model.ground(upto))


class Handing(unittest.TestCase):
    def test_what_is_handed_in_stays(self):
        for deeds, ground in ((list(DEEDS), BARE), (list(ABOVE), GROUND)):
            path = ["o", "l", [1], {"a": 1}]
            ahead = repr((deeds, ground, path))
            with self.assertRaises(NoPath):
                thing_at(deeds, path, ground=ground)
            thing_at(deeds, [], ground=ground)
            path_of(deeds, (1, "ann"), ground=ground)
            self.assertEqual(repr((deeds, ground, path)), ahead)

    def test_told_paths_are_the_askers_own(self):
        for thing in (ROOT, (5, "ann")):
            told = path_of(DEEDS, thing)
            kept = list(told)
            told.append(1)
            told.reverse()
            self.assertEqual(path_of(DEEDS, thing), kept)

    def test_the_path_of_a_refusal_is_its_own(self):
        path = ["o", "x"]
        with self.assertRaises(NoPath) as caught:
            thing_at(DEEDS, path)
        caught.exception.path.append(1)
        self.assertEqual(path, ["o", "x"])
        path.clear()
        self.assertEqual(caught.exception.path, ["o", "x", 1])
        self.assertEqual(caught.exception.step, 1)

    def test_arguments_by_their_names(self):
        self.assertEqual(thing_at(path=["b", 1], ground=GROUND, deeds=ABOVE), (14, "cy"))
        self.assertEqual(path_of(thing=(14, "cy"), ground=GROUND, deeds=ABOVE), ["b", 1])
        with self.assertRaises(TypeError):
            thing_at(ABOVE, [], GROUND)
        with self.assertRaises(TypeError):
            path_of(ABOVE, ROOT, GROUND)

    def test_the_interface(self):
        for name, parameters in (("thing_at", "deeds, path"), ("path_of", "deeds, thing")):
            told = getattr(paths, name)
            self.assertEqual(told.__module__, "heardalike.paths")
            self.assertEqual(str(inspect.signature(told)), f"({parameters}, *, ground=(0, (), (), ()))")


if __name__ == "__main__":
    unittest.main()
