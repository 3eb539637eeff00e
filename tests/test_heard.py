"""Point 12: what a Heard hears and tells, and of 4 what it says of hearing."""

import inspect
import itertools
import unittest

from heardalike import heard as module
from heardalike.deeds import is_deed
from heardalike.deedtexts import deed_of, deed_text
from heardalike.errors import Forged, HeardError, NoDeed
from heardalike.heard import Heard
from heardalike.stamps import ROOT
from heardalike.standing import BARE, standing, table, waiting
from tests.grounds import ABOVE, BELOW, GROUND
from tests.sets import drawn, orders, read, row_of, stamps
from tests.things import ANYTHING, Sour, Sweet

DEEDS = read(
    "1.ann 0 put 0. a text", "2.bob 0 put 1.ann 0. sign x", "3.ann 1 put 1.ann 2.bob sign y", "4.bob 2 take 3.ann", "5.ann 3 undo 4.bob",
    "5.cy 0 seen 2", "6.cy 5 undo 5.cy",
)


def heard(deeds, ground=BARE):
    told = Heard(ground=ground)
    for deed in deeds:
        told.hear(deed)
    return told


def all_told(one):
    """All that a Heard tells."""
    return repr((one.deeds(), one.stands(), one.waits(), one.counts(), one.ground(), len(one), str(one)))


class Hearing(unittest.TestCase):
    def held(self, one, deeds, ground=BARE):
        """A Heard tells what is told of the set."""
        rising = sorted(deeds, key=lambda deed: deed[0])
        self.assertEqual(repr(one.deeds()), repr(rising))
        self.assertEqual(repr(one.stands()), repr(standing(rising, ground=ground)))
        self.assertEqual(one.waits(), waiting(rising, ground=ground))
        self.assertEqual(one.counts(), table(rising, ground=ground))
        self.assertEqual(one.ground(), ground)
        self.assertEqual(len(one), len(rising))
        self.assertEqual(str(one), "\n".join(deed_text(deed) for deed in rising))

    def refused(self, one, thing, error):
        """What is refused changes nothing."""
        ahead = all_told(one)
        with self.assertRaises(HeardError) as caught:
            one.hear(thing)
        self.assertIs(type(caught.exception), error)
        self.assertEqual(all_told(one), ahead)
        return caught.exception


class Heards(Hearing):
    def test_nothing_heard(self):
        one = Heard()
        self.held(one, [])
        self.assertEqual(str(one), "")
        self.assertEqual(one.counts(), {})
        self.assertEqual(one.ground(), BARE)

    def test_each_is_told_when_it_stands(self):
        one = Heard()
        told = [one.hear(deed) for deed in DEEDS]
        self.assertEqual(told, [*[[deed[0]] for deed in DEEDS[:-1]], []])
        self.held(one, DEEDS)
        self.assertEqual(one.waits(), [((6, "cy"), None)])
        self.assertEqual(one.counts(), {"ann": 5, "bob": 4, "cy": 5})

    def test_late_ones_are_told_rising(self):
        one = Heard()
        for deed in reversed(DEEDS[1:]):
            told = one.hear(deed)
            self.assertEqual(told, [(5, "cy")] if deed[0] == (5, "cy") else [])
        self.assertEqual(one.hear(DEEDS[0]), stamps("1.ann 2.bob 3.ann 4.bob 5.ann"))
        self.held(one, DEEDS)

    def test_in_all_orders(self):
        deeds = read("1.ann 0 put 0. a list", "2.ann 1 put 1.ann 0. leaf 1", "2.bob 0 put 1.ann 2.ann leaf 2", "3.bob 2 undo 2.bob", "9.cy 8 seen 0")
        whole = heard(deeds)
        for handed in itertools.permutations(deeds):
            one = Heard()
            told = []
            for at, deed in enumerate(handed):
                told.append(one.hear(deed))
                self.held(one, handed[:at + 1])
            self.assertEqual(sorted(sum(told, [])), stamps("1.ann 2.ann 2.bob 3.bob"))
            self.assertEqual(one, whole)
            self.assertTrue(all(row == sorted(row) for row in told))

    def test_drawn_by_lot_late_and_twice(self):
        for seed in range(15):
            deeds = drawn(seed)
            whole = heard(deeds)
            for handed in orders(deeds, 2):
                one = Heard()
                told = []
                for deed in handed:
                    ahead = {deed[0] for deed in one.stands()}
                    now = one.hear(deed)
                    self.assertEqual(now, sorted({deed[0] for deed in one.stands()} - ahead))
                    self.assertEqual(one.hear(deed), [])
                    told += now
                for deed in handed:
                    self.assertEqual(one.hear(deed), [])
                self.assertEqual(sorted(told), [deed[0] for deed in standing(deeds)])
                self.assertEqual(one, whole)
                self.held(one, deeds)

    def test_a_hundred_and_twenty_heard_falling(self):
        chain = row_of("ann", [("put", ROOT, "a", ("list",))] + [("put", (at, "ann"), ROOT, ("list",)) for at in range(1, 120)])
        one = Heard()
        for deed in reversed(chain[1:]):
            self.assertEqual(one.hear(deed), [])
        self.assertEqual(one.hear(chain[0]), [deed[0] for deed in chain])
        self.held(one, chain)

    def test_a_deed_that_was_heard_changes_nothing(self):
        one = heard(DEEDS)
        ahead = all_told(one)
        for deed in DEEDS:
            self.assertEqual(one.hear(deed), [])
            self.assertEqual(one.hear(deed_of(deed_text(deed))), [])
            self.assertEqual(all_told(one), ahead)

    def test_its_text(self):
        self.assertEqual(str(heard(DEEDS[:1])), "1.ann 0 put 0. a text")
        self.assertEqual(str(heard(reversed(DEEDS[:3]))), "1.ann 0 put 0. a text\n2.bob 0 put 1.ann 0. sign x\n3.ann 1 put 1.ann 2.bob sign y")
        self.assertEqual(str(heard(read("10.ann 0 seen 0", "9.bob 0 seen 0"))), "9.bob 0 seen 0\n10.ann 0 seen 0")


class Refused(Hearing):
    def test_what_is_no_deed(self):
        for one in (Heard(), heard(DEEDS), Heard(ground=GROUND), heard(ABOVE, GROUND)):
            for thing in (*ANYTHING, Sour(), Sweet()):
                if not is_deed(thing):
                    self.refused(one, thing, NoDeed)
            for deed in DEEDS[:2]:
                for thing in (list(deed), deed_text(deed), deed[:2], (*deed, 1), (list(deed[0]), *deed[1:]), (*deed[:2], list(deed[2])), [deed]):
                    self.refused(one, thing, NoDeed)

    def test_no_deed_goes_ahead_of_forged_and_of_the_ground(self):
        one = heard(ABOVE, GROUND)
        for thing in (((11, "ann"), 7, ("seen", 11)), ((11, "ann"), True, ("seen", 0)), ((1, "ann"), 1, ("seen", 0)), ((1, "ann"), 0, ("seen", 1))):
            self.refused(one, thing, NoDeed)

    def test_another_deed_with_a_stamp_that_stands(self):
        one = heard(DEEDS)
        for text in ("1.ann 0 put 0. b text", "1.ann 0 put 0. a list", "1.ann 0 seen 0", "3.ann 0 put 1.ann 2.bob sign y", "5.cy 0 seen 1"):
            told = self.refused(one, deed_of(text), Forged)
            self.assertEqual(told.stamp, deed_of(text)[0])

    def test_another_deed_with_a_stamp_that_waits(self):
        one = heard(read("3.ann 2 put 0. a leaf 1"))
        for text in ("3.ann 0 put 0. a leaf 1", "3.ann 1 put 0. a leaf 1", "3.ann 2 put 0. a leaf 2", "3.ann 2 seen 0"):
            self.assertEqual(self.refused(one, deed_of(text), Forged).stamp, (3, "ann"))
        self.assertEqual(one.hear(deed_of("2.ann 0 seen 0")), stamps("2.ann 3.ann"))

    def test_truths_and_numbers_are_not_one(self):
        for kept, other in ((True, 1), (1, True), (False, 0), (0, False)):
            for before in (0, 2):
                one = heard([((3, "ann"), before, ("put", ROOT, "a", ("leaf", kept)))])
                told = self.refused(one, ((3, "ann"), before, ("put", ROOT, "a", ("leaf", other))), Forged)
                self.assertEqual(told.stamp, (3, "ann"))
                self.assertIs(one.deeds()[0][2][3][1], kept)
                self.assertEqual(one.hear(((3, "ann"), before, ("put", ROOT, "a", ("leaf", kept)))), [])

    def test_a_forged_one_may_be_heard_by_another(self):
        one, other = heard(DEEDS), Heard()
        self.refused(one, deed_of("1.ann 0 seen 0"), Forged)
        self.assertEqual(other.hear(deed_of("1.ann 0 seen 0")), [(1, "ann")])
        self.held(one, DEEDS)


class Beside(Hearing):
    def test_nothing_heard(self):
        one = Heard(ground=GROUND)
        self.held(one, [], GROUND)
        self.assertEqual(one.counts(), {"ann": 9, "bob": 10})

    def test_later_deeds_in_several_orders(self):
        for handed in orders([*ABOVE, *read("15.ann 8 seen 0", "16.ann 13 take 5.ann")]):
            one = heard(handed, GROUND)
            self.held(one, handed, GROUND)
            self.assertEqual(one.waits(), [((15, "ann"), (8, "ann"))])
            self.assertEqual([deed[0] for deed in one.stands()], stamps("11.ann 12.bob 13.ann 14.cy 16.ann"))

    def test_deeds_up_to_upto_change_nothing(self):
        one = heard(ABOVE, GROUND)
        ahead = all_told(one)
        others = read("1.ann 0 seen 0", "9.cy 0 put 0. a leaf 1", "10.zoe 0 seen 3", "10.zoe 9 seen 3", "10.ann 8 take 1.ann")
        for deed in [*BELOW, *others, *others]:
            self.assertEqual(one.hear(deed), [])
            self.assertEqual(all_told(one), ahead)
            self.assertEqual(one, heard(ABOVE, GROUND))
        self.assertEqual(one.hear(deed_of("11.zoe 10 seen 0")), [])
        self.assertEqual(one.waits(), [((11, "zoe"), (10, "zoe"))])
        self.assertEqual(len(one), 5)

    def test_the_first_count_above(self):
        one = Heard(ground=GROUND)
        self.assertEqual(one.hear(deed_of("10.cy 0 seen 0")), [])
        self.assertEqual(len(one), 0)
        self.assertEqual(one.hear(deed_of("11.cy 0 seen 0")), [(11, "cy")])
        self.assertEqual(len(one), 1)
        self.assertEqual(self.refused(one, deed_of("11.cy 0 seen 1"), Forged).stamp, (11, "cy"))


class Equal(unittest.TestCase):
    def equal(self, one, other, truth):
        for first, second in ((one, other), (other, one)):
            self.assertIs(first == second, truth)
            self.assertIs(first != second, not truth)

    def test_with_another(self):
        self.equal(Heard(), Heard(), True)
        self.equal(heard(DEEDS), heard(reversed(DEEDS)), True)
        self.equal(heard(DEEDS), heard(DEEDS + DEEDS), True)
        self.equal(heard(DEEDS), Heard(), False)
        for at in range(len(DEEDS)):
            self.equal(heard(DEEDS), heard(DEEDS[:at] + DEEDS[at + 1:]), False)
        one = heard(DEEDS)
        self.equal(one, one, True)

    def test_with_another_deed_of_the_same_stamp(self):
        self.equal(heard(read("1.ann 0 seen 0")), heard(read("1.ann 0 put 0. a list")), False)
        self.equal(heard(read("1.ann 0 put 0. a leaf yes")), heard(read("1.ann 0 put 0. a leaf 1")), False)
        self.equal(heard(read("1.ann 0 put 0. a leaf no")), heard(read("1.ann 0 put 0. a leaf 0")), False)
        self.equal(heard(read("3.ann 2 seen 0")), heard(read("3.ann 0 seen 0")), False)

    def test_of_another_ground(self):
        self.equal(Heard(), Heard(ground=BARE), True)
        self.equal(heard(DEEDS), heard(DEEDS, (0, (), (), ())), True)
        self.equal(Heard(), Heard(ground=GROUND), False)
        self.equal(Heard(ground=(*GROUND[:3], tuple(list(GROUND[3])))), Heard(ground=GROUND), True)
        self.equal(heard(ABOVE, GROUND), heard(reversed(ABOVE), GROUND), True)
        self.equal(heard(ABOVE, GROUND), heard(ABOVE, (10, GROUND[1][1:], *GROUND[2:])), False)
        self.equal(heard(ABOVE, GROUND), heard(ABOVE, (9, *GROUND[1:])), False)

    def test_grounds_are_equal_by_repr(self):
        grounds = [(1, ((1, "ann"),), (((1, "ann"), ("leaf", v), True, (ROOT, "a", (1, "ann"))),), ()) for v in (True, 1, False, 0)]
        for at, ground in enumerate(grounds):
            for to, other in enumerate(grounds):
                self.equal(Heard(ground=ground), Heard(ground=other), at == to)

    def test_with_anything_else(self):
        for one in (Heard(), heard(DEEDS)):
            for thing in (None, True, False, 0, len(one), "", str(one), [], (), {}, one.deeds(), DEEDS, BARE, Heard, object()):
                self.equal(one, thing, False)
            for thing in (Sour(), Sweet()):
                self.assertIs(one == thing, False)
                self.assertIs(one != thing, True)


class Apart(Hearing):
    def test_two_of_them(self):
        one, other = Heard(), Heard()
        one.hear(DEEDS[0])
        self.held(other, [])
        other.hear(DEEDS[5])
        self.held(one, DEEDS[:1])
        self.held(other, DEEDS[5:6])

    def test_a_copy_goes_on_apart(self):
        for ground, first, second in ((BARE, DEEDS[:3], DEEDS[3:]), (GROUND, ABOVE[:2], ABOVE[2:])):
            one = heard(first, ground)
            other = one.copied()
            self.assertIs(type(other), Heard)
            self.assertIsNot(one, other)
            self.assertEqual(one, other)
            self.held(other, first, ground)
            for deed in second:
                other.hear(deed)
            self.held(one, first, ground)
            self.held(other, first + second, ground)
            self.assertNotEqual(one, other)
            third = other.copied()
            one.hear(second[0])
            self.held(one, first + second[:1], ground)
            self.held(other, first + second, ground)
            self.held(third, first + second, ground)

    def test_a_copy_refuses_and_hears_likewise(self):
        other = heard(DEEDS).copied()
        self.assertEqual(self.refused(other, deed_of("1.ann 0 seen 0"), Forged).stamp, (1, "ann"))
        self.refused(other, None, NoDeed)
        self.assertEqual(other.hear(DEEDS[0]), [])
        beside = Heard(ground=GROUND).copied()
        self.assertEqual(beside.hear(BELOW[0]), [])
        self.held(beside, [], GROUND)

    def test_told_lists_and_dicts_are_the_askers_own(self):
        for one, last in ((heard(DEEDS), "9.zoe 0 seen 0"), (heard(ABOVE, GROUND), "19.zoe 0 seen 0"), (Heard(), "9.zoe 0 seen 0")):
            ahead = all_told(one)
            for ask in (one.deeds, one.stands, one.waits):
                ask().append(1)
                ask().clear()
                told = ask()
                told[:] = [None]
                self.assertEqual(all_told(one), ahead)
            one.counts().clear()
            one.counts()["ann"] = 99
            self.assertEqual(all_told(one), ahead)
            told = one.hear(deed_of(last))
            told.append(1)
            ahead = all_told(one)
            told.clear()
            again = one.hear(deed_of(last))
            self.assertEqual(again, [])
            again.append(1)
            self.assertEqual(one.hear(deed_of(last)), [])
            self.assertEqual(all_told(one), ahead)

    def test_asked_again_the_same_is_told(self):
        for one in (Heard(), heard(drawn(2)), heard(ABOVE, GROUND)):
            self.assertEqual([all_told(one) for _ in range(3)], [all_told(one)] * 3)


class Interface(unittest.TestCase):
    def test_arguments(self):
        self.assertEqual(Heard().hear(deed=DEEDS[0]), [(1, "ann")])
        with self.assertRaises(TypeError):
            Heard(GROUND)

    def test_methods_stand_in_the_class(self):
        self.assertEqual(Heard.__module__, "heardalike.heard")
        self.assertEqual(str(inspect.signature(Heard)), "(*, ground=(0, (), (), ()))")
        self.assertEqual(list(inspect.signature(Heard.hear).parameters), ["self", "deed"])
        for name in ("hear", "deeds", "stands", "waits", "counts", "ground", "copied", "__eq__", "__len__", "__str__"):
            self.assertIn(name, vars(module.Heard))

    def test_kinds(self):
        one = heard(DEEDS)
        self.assertEqual([type(told) for told in (one.deeds(), one.stands(), one.waits(), one.hear(DEEDS[0]))], [list] * 4)
        self.assertIs(type(one.counts()), dict)
        self.assertIs(type(one.ground()), tuple)


if __name__ == "__main__":
    unittest.main()
