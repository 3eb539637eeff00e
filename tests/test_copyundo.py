"""Point 27: undo and again; and of 4 and 14 what they say of them."""

import unittest

from heardalike.copies import Copy
from heardalike.deedtexts import deed_of
from heardalike.keepers import Keeper
from heardalike.stamps import is_stamp
from tests.refusals import Refusing, all_told, refusal
from tests.sets import read
from tests.things import ANYTHING, HUGE, Sour, Sweet
from tests.values import strict

NAMES = ["ann", "bob"]
DEEDS = read("1.ann 0 put 0. l list", "2.ann 1 put 1.ann 0. leaf 2", "3.bob 0 put 1.ann 2.ann leaf 3", "4.ann 2 move 2.ann 0. m", "5.bob 3 take 3.bob")


class Undoing(Refusing):
    KIND = Copy

    def copy(self, *more, name="ann"):
        one = self.KIND(name, among=NAMES)
        one.hear_all([*DEEDS, *read(*more)])
        return one


class OfAStamp(Undoing):
    def test_each_kind_of_deed(self):
        one = self.copy()
        self.assertEqual(one.shown(), {"l": [], "m": 2})
        self.assertEqual(one.undo((5, "bob")), deed_of("6.ann 4 undo 5.bob"))
        self.assertEqual(one.shown(), {"l": [3], "m": 2})
        self.assertEqual(one.undo((4, "ann")), deed_of("7.ann 6 undo 4.ann"))
        self.assertEqual(one.shown(), {"l": [2, 3]})
        self.assertEqual(one.undo((3, "bob")), deed_of("8.ann 7 undo 3.bob"))
        self.assertEqual(one.shown(), {"l": [2]})
        self.assertEqual(one.undo((8, "ann")), deed_of("9.ann 8 undo 8.ann"))
        self.assertEqual(one.shown(), {"l": [2, 3]})
        self.assertEqual(one.undo((1, "ann")), deed_of("10.ann 9 undo 1.ann"))
        self.assertEqual(one.shown(), {})

    def test_what_is_undone_already(self):
        one = self.copy()
        one.undo((5, "bob"))
        self.assertEqual(one.undo((5, "bob")), deed_of("7.ann 6 undo 5.bob"))
        one.undo((7, "ann"))
        self.assertEqual(one.shown(), {"l": [3], "m": 2})
        one.undo((6, "ann"))
        self.assertEqual(one.shown(), {"l": [], "m": 2})

    def test_what_is_no_stamp_of_a_standing_deed(self):
        one = self.copy("7.bob 6 put 0. w leaf 1", "8.bob 7 undo 1.ann", "9.ann 4 seen 0")
        self.assertEqual([stamp for stamp, _ in one.waits()], [(7, "bob"), (8, "bob")])
        others = [(7, "bob"), (8, "bob"), (6, "bob"), (99, "ann"), (1, "bob"), (1, "zoe"), (10, "ann"), (0, ""), (True, "ann"), [1, "ann"], "1.ann", DEEDS[0], 1, HUGE]
        for thing in [*others, Sour(), Sweet(), *[thing for thing in ANYTHING if thing is not None and not is_stamp(thing)]]:
            self.refused(one, "Unknown", {"stamp": thing}, one.undo, thing)

    def test_a_seen(self):
        one = self.copy("6.ann 4 seen 0", "6.bob 5 seen 2")
        self.refused(one, "Unknown", {"stamp": (6, "ann")}, one.undo, (6, "ann"))
        self.refused(one, "Unknown", {"stamp": (6, "bob")}, one.undo, (6, "bob"))

    def test_what_is_settled(self):
        one = self.copy()
        self.assertEqual(one.seen(upto=3), deed_of("6.ann 4 seen 3"))
        for stamp in ((1, "ann"), (2, "ann"), (3, "bob")):
            self.refused(one, "Settled", {"stamp": stamp}, one.undo, stamp)
        self.refused(one, "Unknown", {"stamp": (3, "ann")}, one.undo, (3, "ann"))
        self.refused(one, "Unknown", {"stamp": (6, "ann")}, one.undo, (6, "ann"))
        self.assertEqual(one.undo((4, "ann")), deed_of("7.ann 6 undo 4.ann"))
        one.seen()
        self.assertEqual(one.told(), 5)
        self.refused(one, "Settled", {"stamp": (5, "bob")}, one.undo, (5, "bob"))
        self.assertEqual(one.undo((7, "ann")), deed_of("9.ann 8 undo 7.ann"))

    def test_a_settled_seen_is_unknown(self):
        one = self.copy("6.bob 5 seen 0", "7.bob 6 seen 0", "7.ann 4 seen 0", "8.ann 7 seen 7")
        self.assertEqual(one.told(), 7)
        self.refused(one, "Unknown", {"stamp": (6, "bob")}, one.undo, (6, "bob"))
        self.refused(one, "Settled", {"stamp": (5, "bob")}, one.undo, (5, "bob"))

    def test_what_others_told_settles_nothing(self):
        one = self.copy("6.bob 5 seen 5")
        self.assertEqual(one.told(), 0)
        self.assertEqual(one.undo((1, "ann")), deed_of("7.ann 4 undo 1.ann"))

    def test_a_seen_of_nothing_settles_nothing(self):
        one = self.copy("6.ann 4 seen 0")
        self.assertEqual(one.undo((1, "ann")), deed_of("7.ann 6 undo 1.ann"))


class WithoutAStamp(Undoing):
    def test_the_greatest_of_its_own_that_count(self):
        one = self.copy()
        for text in ("6.ann 4 undo 4.ann", "7.ann 6 undo 2.ann", "8.ann 7 undo 1.ann"):
            self.assertEqual(one.undo(), deed_of(text))
        self.refused(one, "Nothing", {}, one.undo)
        other = self.copy(name="bob")
        for text in ("6.bob 5 undo 5.bob", "7.bob 6 undo 3.bob"):
            self.assertEqual(other.undo(None), deed_of(text))
        self.refused(other, "Nothing", {}, other.undo)

    def test_none_at_all(self):
        one = self.KIND("ann", among=NAMES)
        self.refused(one, "Nothing", {}, one.undo)
        self.refused(one, "Nothing", {}, one.again)
        one.seen()
        one.hear(deed_of("1.bob 0 put 0. a list"))
        self.refused(one, "Nothing", {}, one.undo)
        self.refused(one, "Nothing", {}, one.again)

    def test_what_another_undid_is_left_out(self):
        one = self.copy("6.bob 5 undo 4.ann")
        self.assertEqual(one.undo(), deed_of("7.ann 4 undo 2.ann"))
        one.hear(deed_of("8.bob 6 undo 6.bob"))
        self.assertEqual(one.undo(), deed_of("9.ann 7 undo 4.ann"))

    def test_what_is_settled_is_left_out(self):
        one = self.copy()
        one.seen(upto=3)
        self.assertEqual(one.undo(), deed_of("7.ann 6 undo 4.ann"))
        self.refused(one, "Nothing", {}, one.undo)
        one.seen()
        self.assertEqual(one.told(), 5)
        self.assertEqual(one.put([], ("leaf", 1), place="a"), deed_of("9.ann 8 put 0. a leaf 1"))
        self.assertEqual(one.undo(), deed_of("10.ann 9 undo 9.ann"))
        self.refused(one, "Nothing", {}, one.undo)

    def test_waiting_ones_are_left_out(self):
        one = self.copy("9.bob 8 undo 4.ann")
        self.assertEqual(one.undo(), deed_of("10.ann 4 undo 4.ann"))


class Again(Undoing):
    def test_the_greatest_of_its_own_undos_that_count(self):
        one = self.copy()
        self.refused(one, "Nothing", {}, one.again)
        one.undo()
        one.undo()
        self.assertEqual(one.again(), deed_of("8.ann 7 undo 7.ann"))
        self.assertEqual(one.again(), deed_of("9.ann 8 undo 6.ann"))
        self.refused(one, "Nothing", {}, one.again)
        self.assertEqual(one.shown(), {"l": [], "m": 2})

    def test_undo_twice_and_again_twice(self):
        one = self.copy()
        ahead = strict(one.shown())
        for many in (1, 2, 3):
            told = []
            for _ in range(many):
                one.undo()
                told.append(strict(one.shown()))
            for _ in range(many):
                self.assertEqual(strict(one.shown()), told.pop())
                one.again()
            self.assertEqual(strict(one.shown()), ahead)
        self.assertEqual(one.undo()[2], ("undo", (4, "ann")))

    def test_an_undo_of_anothers_deed(self):
        one = self.copy()
        one.undo((5, "bob"))
        self.assertEqual(one.again(), deed_of("7.ann 6 undo 6.ann"))
        self.refused(one, "Nothing", {}, one.again)

    def test_an_undo_of_an_undo_is_left_out(self):
        one = self.copy("6.bob 5 undo 4.ann")
        one.undo((6, "bob"))
        self.refused(one, "Nothing", {}, one.again)
        one.undo((5, "bob"))
        one.undo((7, "ann"))
        self.assertEqual(one.again(), deed_of("10.ann 9 undo 8.ann"))

    def test_anothers_undo_is_left_out(self):
        one = self.copy("6.bob 5 undo 4.ann")
        self.refused(one, "Nothing", {}, one.again)

    def test_an_undo_that_another_undid_is_left_out(self):
        one = self.copy()
        one.undo()
        one.hear(deed_of("7.bob 5 undo 6.ann"))
        self.refused(one, "Nothing", {}, one.again)

    def test_what_is_settled_is_left_out(self):
        one = self.copy()
        one.undo()
        one.hear(deed_of("7.bob 5 put 0. b leaf 1"))
        one.seen(upto=5)
        self.assertEqual(one.again(), deed_of("9.ann 8 undo 6.ann"))
        self.refused(one, "Nothing", {}, one.undo)
        one.put([], ("leaf", 1), place="z")
        self.assertEqual(one.undo(), deed_of("11.ann 10 undo 10.ann"))
        one.hear(deed_of("12.bob 7 seen 0"))
        one.seen()
        self.assertEqual(one.told(), 11)
        self.refused(one, "Nothing", {}, one.again)
        self.refused(one, "Settled", {"stamp": (11, "ann")}, one.undo, (11, "ann"))

    def test_of_two_undos_each_is_enough(self):
        one = self.copy("6.bob 5 undo 4.ann")
        one.undo((4, "ann"))
        one.again()
        self.assertEqual(one.shown(), {"l": [2]})
        one.undo((6, "bob"))
        self.assertEqual(one.shown(), {"l": [], "m": 2})


class AsIfItDidNothing(Undoing):
    def test_an_edit_and_its_undo(self):
        for call in (
            lambda one: one.put(["l"], ("leaf", 9)), lambda one: one.give([], "m", ("leaf", 9)), lambda one: one.take(["l"]), lambda one: one.move(["m"], ["l"]),
            lambda one: one.move(["l"], [], place="m"), lambda one: one.put([], ("text",), place="m"),
        ):
            one = self.copy()
            ahead = strict(one.shown())
            made = call(one)
            behind = strict(one.shown())
            self.assertNotEqual(ahead, behind)
            many = len(made) if isinstance(made, list) else 1
            for _ in range(many):
                one.undo()
            self.assertEqual(strict(one.shown()), ahead)
            for _ in range(many):
                one.again()
            self.assertEqual(strict(one.shown()), behind)

    def test_refused_ones_change_nothing(self):
        one = self.copy()
        one.seen(upto=3)
        ahead = all_told(one)
        for call in (lambda: one.undo((9, "zoe")), lambda: one.undo((1, "ann")), lambda: one.undo(0), one.again):
            self.assertIsNotNone(refusal(call))
            self.assertEqual(all_told(one), ahead)

    def test_by_names(self):
        one = self.copy()
        self.assertEqual(one.undo(stamp=(5, "bob")), deed_of("6.ann 4 undo 5.bob"))
        self.assertEqual(one.undo(stamp=None), deed_of("7.ann 6 undo 4.ann"))


class KeeperOfAStamp(OfAStamp):
    KIND = Keeper


class KeeperWithoutAStamp(WithoutAStamp):
    KIND = Keeper


class KeeperAgain(Again):
    KIND = Keeper


if __name__ == "__main__":
    unittest.main()
