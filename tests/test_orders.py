"""Points 18, 19 and 20, and of 4 what it says of positions."""

import inspect
import itertools
import unittest

from heardalike import orders as module
from heardalike.errors import HeardError, NoHolder, Unknown
from heardalike.orders import order, parting
from heardalike.stamps import ROOT, is_stamp
from heardalike.standing import BARE, standing
from tests.grounds import ABOVE, GROUND
from tests.model import Model
from tests.sets import drawn, orders, read, row_of, stamp, stamps
from tests.things import ANYTHING, Sour, Sweet, deep_tuple, ring_list

TEXT = read("1.ann 0 put 0. a text")
LIST = read("1.ann 0 put 0. a list", "1.bob 0 put 0. b list", "1.cy 0 put 0. c leaf 1")


class Orders(unittest.TestCase):
    def told(self, deeds, row, holder="1.ann", ground=BARE):
        """In whatever order they are handed in the positions stand so."""
        for handed in orders(deeds):
            self.assertEqual(order(handed, stamp(holder), ground=ground), stamps(row))

    def parts(self, deeds, one, other, told, holder="1.ann", ground=BARE):
        """Two positions part so, and turned about likewise."""
        at, first, second = [None if word == "-" else stamp(word) for word in told.split(" ")]
        for handed in orders(deeds, 1):
            self.assertEqual(parting(handed, stamp(holder), stamp(one), stamp(other), ground=ground), (at, first, second))
            self.assertEqual(parting(handed, stamp(holder), stamp(other), stamp(one), ground=ground), (at, second, first))


class InOrder(Orders):
    def test_a_holder_without_positions(self):
        self.told(TEXT, "")
        self.told(LIST, "", "1.bob")

    def test_typed_in_a_row(self):
        deeds = [*TEXT, *read("2.ann 1 put 1.ann 0. sign x", "3.ann 2 put 1.ann 2.ann sign y", "4.ann 3 put 1.ann 3.ann sign z")]
        self.told(deeds, "2.ann 3.ann 4.ann")

    def test_all_at_the_beginning(self):
        deeds = [*LIST, *read("2.ann 1 put 1.ann 0. leaf 2", "3.bob 1 put 1.ann 0. list", "3.ann 2 move 1.cy 1.ann 0.", "10.cy 1 put 1.ann 0. text")]
        self.told(deeds, "10.cy 3.bob 3.ann 2.ann")

    def test_behind_one_position_the_greatest_first(self):
        deeds = [*TEXT, *read(
            "2.ann 1 put 1.ann 0. sign a", "3.ann 2 put 1.ann 2.ann sign b", "3.bob 0 put 1.ann 2.ann sign c", "10.cy 0 put 1.ann 2.ann sign d",
            "9.cy 0 put 1.ann 2.ann sign e",
        )]
        self.told(deeds, "2.ann 10.cy 9.cy 3.bob 3.ann")

    def test_what_is_behind_a_position_goes_ahead_of_all_else(self):
        deeds = [*LIST, *read(
            "2.ann 1 put 1.ann 0. leaf 2", "3.ann 2 put 1.ann 2.ann leaf 3", "4.bob 0 put 1.ann 0. leaf 4", "5.bob 4 put 1.ann 4.bob leaf 5",
            "6.cy 0 put 1.ann 2.ann leaf 6", "7.cy 6 put 1.ann 6.cy leaf 7", "8.dan 0 move 1.cy 1.ann 4.bob", "9.dan 8 put 1.ann 3.ann leaf 9",
        )]
        self.told(deeds, "4.bob 8.dan 5.bob 2.ann 6.cy 7.cy 3.ann 9.dan")

    def test_each_holder_has_its_own(self):
        deeds = [*LIST, *read(
            "2.ann 1 put 1.ann 0. leaf 2", "3.ann 2 put 1.bob 0. leaf 3", "4.ann 3 move 2.ann 1.bob 3.ann", "5.ann 4 move 2.ann 1.ann 2.ann",
            "6.ann 5 put 0. b leaf 6",
        )]
        self.told(deeds, "2.ann 5.ann")
        self.told(deeds, "3.ann 4.ann", "1.bob")

    def test_whether_they_count_or_were_skipped_has_no_bearing(self):
        deeds = [*LIST, *read(
            "2.ann 1 put 1.ann 0. leaf 2", "3.ann 2 put 1.ann 2.ann leaf 3", "4.ann 3 move 1.ann 1.ann 2.ann", "5.ann 4 move 1.cy 1.ann 3.ann",
        )]
        more = read("6.bob 1 undo 2.ann", "7.bob 6 undo 5.ann", "8.bob 7 take 3.ann", "9.bob 8 undo 1.ann", "10.bob 9 move 3.ann 0. x")
        self.told(deeds, "2.ann 4.ann 3.ann 5.ann")
        for many in range(len(more) + 1):
            self.told(deeds + more[:many], "2.ann 4.ann 3.ann 5.ann")

    def test_waiting_deeds_have_no_position(self):
        deeds = [*LIST, *read("3.ann 2 put 1.ann 0. leaf 3", "4.cy 1 put 1.ann 0. leaf 4", "5.cy 4 put 1.ann 0. sign x", "6.cy 0 put 1.ann 3.ann leaf 6")]
        self.told(deeds, "4.cy")
        self.told([*deeds, *read("2.ann 1 put 1.ann 0. leaf 2")], "4.cy 3.ann 6.cy 2.ann")

    def test_two_rows_typed_at_once_stay_rows(self):
        one = row_of("ann", [("put", ROOT, "a", ("text",)), ("put", (1, "ann"), ROOT, ("sign", "a"))])
        one += [((at, "ann"), at - 1, ("put", (1, "ann"), (at - 1, "ann"), ("sign", "a"))) for at in range(3, 8)]
        other = [((2, "bob"), 0, ("put", (1, "ann"), ROOT, ("sign", "b")))]
        other += [((at, "bob"), at - 1, ("put", (1, "ann"), (at - 1, "bob"), ("sign", "b"))) for at in range(3, 8)]
        self.told(one + other, "2.bob 3.bob 4.bob 5.bob 6.bob 7.bob 2.ann 3.ann 4.ann 5.ann 6.ann 7.ann")
        within = read("8.cy 0 put 1.ann 3.ann sign c", "9.cy 8 put 1.ann 8.cy sign d")
        self.told(one + other + within, "2.bob 3.bob 4.bob 5.bob 6.bob 7.bob 2.ann 3.ann 8.cy 9.cy 4.ann 5.ann 6.ann 7.ann")

    def test_a_hundred_positions(self):
        for many in (100, 119):
            behind = row_of("ann", [("put", ROOT, "a", ("text",)), ("put", (1, "ann"), ROOT, ("sign", "a"))])
            behind += [((at, "ann"), at - 1, ("put", (1, "ann"), (at - 1, "ann"), ("sign", "a"))) for at in range(3, many + 2)]
            self.assertEqual(order(list(reversed(behind)), (1, "ann")), [(at, "ann") for at in range(2, many + 2)])
            self.assertEqual(parting(behind, (1, "ann"), (2, "ann"), (many + 1, "ann")), ((2, "ann"), None, (3, "ann")))
            self.assertEqual(parting(behind, (1, "ann"), (many + 1, "ann"), (2, "ann")), ((2, "ann"), (3, "ann"), None))
            first = row_of("ann", [("put", ROOT, "a", ("text",))] + [("put", (1, "ann"), ROOT, ("sign", "a"))] * many)
            self.assertEqual(order(first, (1, "ann")), [(at, "ann") for at in range(many + 1, 1, -1)])
            mixed = row_of("ann", [("put", ROOT, "a", ("text",)), ("put", (1, "ann"), ROOT, ("sign", "a"))])
            mixed += [((at, "ann"), at - 1, ("put", (1, "ann"), (at // 2 + 1, "ann"), ("sign", "a"))) for at in range(3, many + 2)]
            self.assertEqual(order(mixed, (1, "ann")), Model(mixed).order((1, "ann")))


class Parting(Orders):
    DEEDS = [*TEXT, *read(
        "2.ann 1 put 1.ann 0. sign a", "3.ann 2 put 1.ann 2.ann sign b", "4.ann 3 put 1.ann 3.ann sign c", "5.bob 0 put 1.ann 2.ann sign d",
        "6.bob 5 put 1.ann 5.bob sign e", "7.cy 0 put 1.ann 0. sign f", "8.cy 7 put 1.ann 7.cy sign g", "9.cy 8 move 4.ann 1.ann 4.ann",
    )]

    def test_the_order(self):
        self.told(self.DEEDS, "7.cy 8.cy 2.ann 5.bob 6.bob 3.ann 4.ann 9.cy")

    def test_one_stands_in_the_others_upway(self):
        self.parts(self.DEEDS, "2.ann", "3.ann", "2.ann - 3.ann")
        self.parts(self.DEEDS, "2.ann", "4.ann", "2.ann - 3.ann")
        self.parts(self.DEEDS, "2.ann", "9.cy", "2.ann - 3.ann")
        self.parts(self.DEEDS, "3.ann", "9.cy", "3.ann - 4.ann")
        self.parts(self.DEEDS, "7.cy", "8.cy", "7.cy - 8.cy")

    def test_they_part_at_a_position(self):
        self.parts(self.DEEDS, "3.ann", "5.bob", "2.ann 3.ann 5.bob")
        self.parts(self.DEEDS, "4.ann", "6.bob", "2.ann 3.ann 5.bob")
        self.parts(self.DEEDS, "9.cy", "5.bob", "2.ann 3.ann 5.bob")

    def test_they_part_at_root(self):
        self.parts(self.DEEDS, "2.ann", "7.cy", "0. 2.ann 7.cy")
        self.parts(self.DEEDS, "9.cy", "8.cy", "0. 2.ann 7.cy")
        self.parts(self.DEEDS, "6.bob", "7.cy", "0. 2.ann 7.cy")

    def test_it_tells_the_order(self):
        row = order(self.DEEDS, (1, "ann"))
        for first, second in itertools.permutations(row, 2):
            _, one, other = parting(self.DEEDS, (1, "ann"), first, second)
            ahead = one is None or other is not None and one > other
            self.assertEqual(row.index(first) < row.index(second), ahead)

    def test_whatever_else_was_heard(self):
        told = parting(self.DEEDS, (1, "ann"), (9, "cy"), (6, "bob"))
        more = read("10.dan 0 put 1.ann 2.ann sign z", "11.dan 10 undo 2.ann", "12.dan 11 take 5.bob", "13.dan 12 undo 9.cy")
        self.assertEqual(parting(self.DEEDS + more, (1, "ann"), (9, "cy"), (6, "bob")), told)
        few = [deed for deed in self.DEEDS if deed[0] not in stamps("7.cy 8.cy 9.cy")]
        self.assertEqual(parting(few, (1, "ann"), (4, "ann"), (6, "bob")), parting(self.DEEDS, (1, "ann"), (4, "ann"), (6, "bob")))


class Beside(Orders):
    def test_the_grounds_positions(self):
        self.told([], "7.ann 5.ann 8.bob", "2.ann", GROUND)
        self.told([], "6.ann", "3.bob", GROUND)

    def test_holders_of_the_ground_without_positions(self):
        self.told([], "", "4.bob", GROUND)
        self.told(ABOVE, "12.bob", "4.bob", GROUND)
        self.told(read("11.cy 0 put 4.bob 0. leaf 1", "12.cy 11 put 4.bob 0. leaf 2"), "12.cy 11.cy", "4.bob", GROUND)

    def test_later_ones_behind_and_among_them(self):
        self.told(ABOVE, "7.ann 5.ann 14.cy 8.bob", "2.ann", GROUND)
        deeds = read(
            "11.cy 0 put 2.ann 0. leaf 1", "12.cy 11 put 2.ann 7.ann leaf 2", "13.cy 12 put 2.ann 8.bob leaf 3", "14.cy 13 put 2.ann 12.cy leaf 4",
            "15.dan 0 put 2.ann 7.ann leaf 5", "16.dan 15 move 5.ann 2.ann 5.ann", "17.dan 16 put 2.ann 0. leaf 6", "18.eve 0 put 2.ann 11.cy leaf 7",
        )
        self.told(deeds, "17.dan 11.cy 18.eve 7.ann 15.dan 12.cy 14.cy 5.ann 16.dan 8.bob 13.cy", "2.ann", GROUND)

    def test_partings(self):
        deeds = read("11.cy 0 put 2.ann 0. leaf 1", "12.cy 11 put 2.ann 7.ann leaf 2", "13.cy 12 put 2.ann 8.bob leaf 3")
        for one, other, told in (
            ("7.ann", "8.bob", "7.ann - 5.ann"), ("7.ann", "5.ann", "7.ann - 5.ann"), ("5.ann", "13.cy", "5.ann - 8.bob"),
            ("12.cy", "8.bob", "7.ann 12.cy 5.ann"), ("13.cy", "12.cy", "7.ann 5.ann 12.cy"), ("11.cy", "7.ann", "0. 11.cy 7.ann"),
            ("13.cy", "11.cy", "0. 7.ann 11.cy"),
        ):
            self.parts(deeds, one, other, told, "2.ann", GROUND)

    def test_a_holder_of_the_set(self):
        deeds = read("11.cy 0 put 0. a list", "12.cy 11 move 5.ann 11.cy 0.", "13.cy 12 put 11.cy 7.ann leaf 1")
        self.told(deeds, "12.cy", "11.cy", GROUND)
        self.told(deeds, "7.ann 5.ann 8.bob", "2.ann", GROUND)


class Refused(unittest.TestCase):
    DEEDS = [*LIST, *read(
        "2.ann 1 put 1.ann 0. leaf 2", "3.ann 2 put 0. o object", "4.ann 3 put 0. t text", "5.ann 4 put 4.ann 0. sign x", "6.ann 5 move 1.cy 1.ann 2.ann",
        "7.ann 6 take 1.cy", "8.ann 7 undo 7.ann", "9.ann 8 seen 0", "12.bob 11 put 0. d list", "13.cy 0 put 12.bob 0. leaf 3", "14.dan 0 put 0. 0. list",
        "15.ann 9 put 3.ann x leaf 1", "16.ann 15 put 1.bob 0. leaf 16",
    )]

    def refused(self, error, ask, *things, **ground):
        with self.assertRaises(HeardError) as caught:
            ask(*things, **ground)
        self.assertIs(type(caught.exception), error)
        return caught.exception.stamp

    def no_holder(self, thing, deeds=None, **ground):
        deeds = self.DEEDS if deeds is None else deeds
        self.assertIs(self.refused(NoHolder, order, deeds, thing, **ground), thing)
        self.assertIs(self.refused(NoHolder, parting, deeds, thing, (2, "ann"), (6, "ann"), **ground), thing)
        self.assertIs(self.refused(NoHolder, parting, deeds, thing, None, thing, **ground), thing)

    def test_what_is_no_list_and_no_text(self):
        for text in ("0.", "1.cy", "2.ann", "3.ann", "5.ann", "6.ann", "7.ann", "8.ann", "9.ann", "12.bob", "14.dan", "99.ann", "1.dan"):
            self.no_holder(stamp(text))
        self.assertEqual(order(self.DEEDS, (1, "ann")), stamps("2.ann 6.ann"))
        self.assertEqual(order(self.DEEDS, (4, "ann")), stamps("5.ann"))

    def test_anything(self):
        for thing in (*ANYTHING, Sour(), Sweet(), deep_tuple(), ring_list()):
            if not is_stamp(thing):
                self.no_holder(thing)
            self.no_holder(thing, [])
        for thing in ((True, "ann"), [1, "ann"], (1, "ann", 0), ((1, "ann"),), "1.ann", {"1.ann": 1}, (1, b"ann"), (False, ""), 1, "ann"):
            self.no_holder(thing)

    def test_anything_beside_a_ground(self):
        for text in ("0.", "1.ann", "5.ann", "6.ann", "7.ann", "8.bob", "9.ann", "10.bob", "1.cy", "11.ann", "12.bob", "14.cy"):
            self.no_holder(stamp(text), ABOVE, ground=GROUND)
        for thing in ANYTHING:
            self.no_holder(thing, ABOVE, ground=GROUND)

    def test_positions_that_are_none_of_this_holder(self):
        for thing in (*stamps("1.ann 1.bob 3.ann 5.ann 7.ann 13.cy 15.ann 16.ann 99.ann 0."), *ANYTHING, Sour(), [2, "ann"], (2, "ann", 1), "2.ann"):
            self.assertIs(self.refused(Unknown, parting, self.DEEDS, (1, "ann"), thing, (2, "ann")), thing)
            self.assertIs(self.refused(Unknown, parting, self.DEEDS, (1, "ann"), (6, "ann"), thing), thing)

    def test_a_truth_is_no_count(self):
        deeds = read("1.a 0 put 0. a list", "1.b 0 put 1.a 0. leaf 1", "2.b 1 put 1.a 0. leaf 2")
        self.assertEqual(parting(deeds, (1, "a"), (1, "b"), (2, "b")), (ROOT, (1, "b"), (2, "b")))
        self.assertEqual(self.refused(Unknown, parting, deeds, (1, "a"), (True, "b"), (2, "b")), (True, "b"))
        self.assertEqual(self.refused(Unknown, parting, deeds, (1, "a"), (2, "b"), (True, "b")), (True, "b"))
        self.assertEqual(repr(self.refused(NoHolder, order, deeds, (True, "a"))), "(True, 'a')")

    def test_the_first_one_goes_first(self):
        for one, other in ((None, "x"), ("x", None), ((99, "ann"), (98, "ann")), (ROOT, [])):
            self.assertIs(self.refused(Unknown, parting, self.DEEDS, (1, "ann"), one, other), one)

    def test_no_holder_goes_ahead_of_unknown(self):
        self.assertEqual(self.refused(NoHolder, parting, self.DEEDS, (3, "ann"), None, None), (3, "ann"))

    def test_positions_of_the_ground(self):
        for thing in stamps("6.ann 1.ann 9.ann 12.bob 99.ann 0."):
            self.assertEqual(self.refused(Unknown, parting, ABOVE, (2, "ann"), thing, (7, "ann"), ground=GROUND), thing)
            self.assertEqual(self.refused(Unknown, parting, ABOVE, (2, "ann"), (14, "cy"), thing, ground=GROUND), thing)

    def test_the_same_is_told_behind_a_refusal(self):
        ahead = order(self.DEEDS, (1, "ann"))
        self.refused(NoHolder, order, self.DEEDS, [])
        self.refused(Unknown, parting, self.DEEDS, (1, "ann"), [], [])
        self.assertEqual(order(self.DEEDS, (1, "ann")), ahead)


class Drawn(unittest.TestCase):
    def held(self, deeds, ground=BARE):
        model = Model(deeds, ground)
        for holder in model.rows_of_positions():
            row = model.order(holder)
            for handed in orders(deeds, 1):
                self.assertEqual(order(handed, holder, ground=ground), row)
            for one, other in itertools.permutations(row[:4], 2):
                self.assertEqual(parting(deeds, holder, one, other, ground=ground), model.parting(one, other))
        return model

    def test_as_the_document_says(self):
        rows = [model.order(holder) for model in map(self.held, map(drawn, range(40))) for holder in model.rows_of_positions()]
        self.assertGreater(max(map(len, rows)), 7)
        for seed in range(5):
            self.held(drawn(seed, 110))

    def test_the_one_ahead_stays_ahead_for_ever(self):
        for seed in range(30):
            deeds = drawn(seed)
            for many in range(5, len(deeds), 4):
                for holder in Model(standing(deeds[:many])).rows_of_positions():
                    few = order(deeds[:many], holder)
                    self.assertEqual([one for one in order(deeds, holder) if one in few], few)

    def test_beside_grounds(self):
        for seed in range(25):
            deeds = drawn(seed)
            model = Model(deeds)
            for upto in range(1, max(deed[0][0] for deed in deeds) + 1):
                if model.is_clean(upto):
                    ground = model.ground(upto)
                    beside = self.held([deed for deed in deeds if deed[0][0] > upto], ground)
                    for holder in beside.rows_of_positions():
                        row = beside.order(holder)
                        self.assertEqual([one for one in model.order(holder) if one in row], row)


class Handing(unittest.TestCase):
    def test_what_is_handed_in_stays_and_told_lists_are_the_askers_own(self):
        for deeds, ground, holder in ((list(Parting.DEEDS), BARE, (1, "ann")), (list(ABOVE), GROUND, (2, "ann")), (list(TEXT), BARE, (1, "ann"))):
            ahead = repr((deeds, ground))
            told = order(deeds, holder, ground=ground)
            kept = list(told)
            told.append(1)
            self.assertEqual(order(deeds, holder, ground=ground), kept)
            told.clear()
            self.assertEqual(order(deeds, holder, ground=ground), kept)
            self.assertEqual(repr((deeds, ground)), ahead)

    def test_kinds(self):
        self.assertIs(type(order(TEXT, (1, "ann"))), list)
        self.assertIs(type(parting(Parting.DEEDS, (1, "ann"), (2, "ann"), (3, "ann"))), tuple)

    def test_arguments_by_their_names(self):
        self.assertEqual(order(holder=(2, "ann"), ground=GROUND, deeds=ABOVE), order(ABOVE, (2, "ann"), ground=GROUND))
        told = parting(other=(8, "bob"), one=(14, "cy"), holder=(2, "ann"), ground=GROUND, deeds=ABOVE)
        self.assertEqual(told, ((5, "ann"), (14, "cy"), (8, "bob")))
        with self.assertRaises(TypeError):
            order(ABOVE, (2, "ann"), GROUND)
        with self.assertRaises(TypeError):
            parting(ABOVE, (2, "ann"), (14, "cy"), (8, "bob"), GROUND)

    def test_the_interface(self):
        for name, parameters in (("order", "deeds, holder"), ("parting", "deeds, holder, one, other")):
            told = getattr(module, name)
            self.assertEqual(told.__module__, "heardalike.orders")
            self.assertEqual(str(inspect.signature(told)), f"({parameters}, *, ground=(0, (), (), ()))")


if __name__ == "__main__":
    unittest.main()
