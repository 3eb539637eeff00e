"""Points 30 to 33, and of 4 and 11 what they say of grounds."""

import inspect
import unittest

from heardalike import grounds
from heardalike.deeds import target_of, thing_of
from heardalike.errors import HeardError, NotClean
from heardalike.grounds import cleaned, ground_of, is_clean
from heardalike.orders import order
from heardalike.places import depths, lies, skipped
from heardalike.shows import shown
from heardalike.stamps import ROOT
from heardalike.standing import BARE, standing, table, waiting
from heardalike.undoing import counting, undone
from tests.grounds import ABOVE, BELOW, GROUND
from tests.model import Model
from tests.sets import drawn, orders, read, row_of, stamps
from tests.things import HUGE
from tests.values import strict

UNDOS = read(
    "1.ann 0 put 0. a leaf 1", "2.bob 0 put 0. b leaf 2", "3.ann 1 put 0. c leaf 3", "4.bob 2 undo 3.ann", "7.ann 3 put 0. d leaf 7", "9.ann 7 undo 7.ann",
    "10.bob 4 undo 9.ann", "12.cy 0 seen 0",
)


def above_of(deeds, upto):
    return [deed for deed in deeds if deed[0][0] > upto]


def numbers_of(deeds):
    return range(0, max([deed[0][0] for deed in deeds], default=0) + 2)


class Clean(unittest.TestCase):
    def held(self, deeds, clean, numbers, ground=BARE):
        """Of these numbers just these are clean."""
        for handed in orders(deeds, 2):
            self.assertEqual([number for number in numbers if is_clean(handed, number, ground=ground)], clean)
        for number in numbers:
            self.assertIs(type(is_clean(deeds, number, ground=ground)), bool)

    def test_no_deeds(self):
        self.held([], [0, 1, 2, 10 ** 15, HUGE], [-HUGE, -2, -1, 0, 1, 2, 10 ** 15, HUGE])

    def test_without_undos(self):
        self.held([deed for deed in UNDOS if deed[2][0] != "undo"], list(range(14)), range(-3, 14))

    def test_around_undos(self):
        self.held(UNDOS, [0, 1, 2, 4, 5, 6, 10, 11, 12, 13, 14], range(-3, 15))

    def test_just_at_below_and_above(self):
        deeds = read("5.ann 0 put 0. a leaf 1", "9.bob 0 undo 5.ann")
        self.held(deeds, [3, 4, 9, 10, 11], range(3, 12))

    def test_with_like_counts(self):
        deeds = read("5.ann 0 put 0. a leaf 1", "5.bob 0 undo 5.ann")
        self.held(deeds, [3, 4, 5, 6], range(3, 7))

    def test_waiting_undos_do_nothing(self):
        deeds = read("5.ann 0 put 0. a leaf 1", "9.bob 8 undo 5.ann", "10.cy 0 undo 3.zoe", "11.cy 0 undo 9.bob")
        self.held(deeds, list(range(0, 13)), range(-1, 13))
        self.held([*deeds, *read("8.bob 0 seen 0")], [0, 1, 2, 3, 4, 11, 12], range(-1, 13))

    def test_undone_undos_do_as_well(self):
        deeds = read("5.ann 0 put 0. a leaf 1", "9.bob 0 undo 5.ann", "12.cy 0 undo 9.bob")
        self.held(deeds, [3, 4, 12, 13], range(3, 14))
        deeds = read("5.ann 0 put 0. a leaf 1", "7.bob 0 undo 5.ann", "12.cy 0 undo 7.bob")
        self.held(deeds, [4, 12], range(4, 13))

    def test_beside_a_ground(self):
        self.held([], [10, 11, HUGE], [-1, 0, 1, 8, 9, 10, 11, HUGE], GROUND)
        more = [*ABOVE, *read("15.cy 14 undo 13.ann", "16.cy 15 undo 5.ann", "18.ann 13 undo 15.cy")]
        self.held(more, [10, 11, 12, 18, 19], range(-1, 20), GROUND)

    def test_what_is_no_whole_number(self):
        for thing in (None, True, False, "1", (1,), []):
            self.assertIs(is_clean([], thing), False)


class Cleaned(unittest.TestCase):
    def test_the_greatest_clean_number(self):
        for upto, number in ((0, 0), (1, 1), (2, 2), (3, 2), (4, 4), (6, 6), (7, 6), (8, 6), (9, 6), (10, 10), (11, 11), (12, 12), (13, 13), (99, 99), (HUGE, HUGE)):
            for handed in orders(UNDOS, 2):
                self.assertEqual(cleaned(handed, upto), number)
        for upto in (0, 5, 10 ** 15, HUGE):
            self.assertEqual(cleaned([], upto), upto)

    def test_through_several_undos(self):
        deeds = read("2.ann 0 put 0. a leaf 1", "4.ann 2 put 0. b leaf 1", "5.bob 0 undo 2.ann", "7.bob 5 undo 4.ann", "8.ann 4 put 0. c leaf 1", "9.cy 0 undo 8.ann")
        self.assertEqual([cleaned(deeds, upto) for upto in range(11)], [0, 1, 1, 1, 1, 1, 1, 7, 7, 9, 10])

    def test_down_to_none(self):
        chain = row_of("ann", [("put", ROOT, "a", ("list",))] + [("undo", (at, "ann")) for at in range(1, 120)])
        self.assertEqual([cleaned(chain, upto) for upto in (0, 1, 60, 119, 120, 121)], [0, 0, 0, 0, 120, 121])

    def test_far_apart(self):
        deeds = read("7.ann 0 put 0. a leaf 1", "999999999999999.bob 0 undo 7.ann")
        self.assertEqual([cleaned(deeds, upto) for upto in (6, 7, 10 ** 14, 10 ** 15 - 2, 10 ** 15 - 1, 10 ** 15)], [6, 6, 6, 6, 10 ** 15 - 1, 10 ** 15])
        deeds = read("999999999999990.ann 0 put 0. a leaf 1", "999999999999999.bob 0 undo 999999999999990.ann")
        self.assertEqual(cleaned(deeds, 10 ** 15 - 2), 999999999999989)

    def test_beside_a_ground(self):
        more = [*ABOVE, *read("15.cy 14 undo 13.ann", "16.cy 15 undo 12.bob")]
        self.assertEqual([cleaned(more, upto, ground=GROUND) for upto in range(10, 19)], [10, 11, 11, 11, 11, 11, 16, 17, 18])
        self.assertEqual([cleaned([], upto, ground=GROUND) for upto in (10, 11, HUGE)], [10, 11, HUGE])

    def test_drawn_by_lot(self):
        for seed in range(25):
            deeds = drawn(seed)
            model = Model(deeds)
            clean = [number for number in numbers_of(deeds) if model.is_clean(number)]
            for upto in numbers_of(deeds):
                self.assertIs(is_clean(deeds, upto), upto in clean)
                self.assertEqual(cleaned(deeds, upto), max(number for number in clean if number <= upto))


class Grounds(unittest.TestCase):
    def told(self, deeds, upto, ground, beside=BARE):
        """In whatever order they are handed in this ground is told."""
        for handed in orders(deeds, 2):
            self.assertEqual(repr(ground_of(handed, upto, ground=beside)), repr(ground))

    def refused(self, deeds, upto, ground=BARE):
        with self.assertRaises(HeardError) as caught:
            ground_of(deeds, upto, ground=ground)
        self.assertIs(type(caught.exception), NotClean)
        self.assertIs(caught.exception.upto, upto)


class OfASet(Grounds):
    def test_no_deeds_and_nothing_below(self):
        self.told([], 0, BARE)
        self.told([], 7, (7, (), (), ()))
        self.told(UNDOS, 0, BARE)
        self.told(read("5.ann 0 put 0. a list"), 4, (4, (), (), ()))

    def test_the_scene(self):
        self.told(BELOW + ABOVE, 10, GROUND)

    def test_all_below(self):
        self.told(read("1.ann 0 put 0. a list", "2.bob 0 put 1.ann 0. leaf 2", "3.ann 1 put 1.ann 2.bob leaf 3"), 3, (
            3, ((2, "bob"), (3, "ann")),
            (((1, "ann"), ("list",), True, (ROOT, "a", (1, "ann"))), ((2, "bob"), ("leaf", 2), True, ((1, "ann"), "", (2, "bob"))), ((3, "ann"), ("leaf", 3), True, ((1, "ann"), "", (3, "ann")))),
            (((1, "ann"), ((2, "bob"), (3, "ann"))),),
        ))

    def test_heads(self):
        deeds = read("1.ann 0 seen 0", "2.ann 1 seen 0", "3.ann 2 seen 0", "3.bob 0 seen 0", "6.ann 2 seen 0", "7.ann 1 seen 0", "8.cy 0 seen 0", "9.ann 6 seen 0", "12.ann 11 seen 0")
        for upto, heads in ((1, "1.ann"), (2, "1.ann 2.ann"), (3, "1.ann 2.ann 3.ann 3.bob"), (5, "1.ann 2.ann 3.ann 3.bob"), (6, "1.ann 3.bob 6.ann"), (7, "3.bob 6.ann 7.ann"), (8, "3.bob 6.ann 7.ann 8.cy"), (9, "3.bob 8.cy 9.ann"), (20, "3.bob 8.cy 9.ann")):
            self.told(deeds, upto, (upto, tuple(stamps(heads)), (), ()))

    def test_a_stamp_of_another_maker_is_no_before(self):
        deeds = read("1.ann 0 seen 0", "2.ann 1 seen 0", "1.bob 0 seen 0", "2.bob 1 seen 0", "5.bob 1 seen 0")
        self.told(deeds, 3, (3, tuple(stamps("1.bob 2.ann 2.bob")), (), ()))

    def test_waiting_deeds_below_and_above_are_left_out(self):
        deeds = read("1.ann 0 put 0. a list", "2.ann 1 take 1.ann", "2.bob 1 put 0. b list", "5.bob 4 put 1.ann 0. leaf 5", "6.ann 1 put 0. c sign x")
        self.told(deeds, 3, (3, ((2, "ann"),), (), ()))
        self.told([*deeds, *read("7.cy 0 move 1.ann 0. x")], 3, (3, ((2, "ann"),), (((1, "ann"), ("list",), True, None),), ()))

    def test_what_is_not_in_the_tree_is_not_kept(self):
        deeds = read("1.ann 0 put 0. a list", "2.ann 1 put 1.ann 0. leaf 2", "3.ann 2 take 1.ann", "4.ann 3 put 0. b leaf 4", "5.ann 4 undo 4.ann")
        self.told(deeds, 5, (5, ((5, "ann"),), (), ()))

    def test_a_thing_beside_another_one_is_kept(self):
        deeds = read("1.ann 0 put 0. a leaf 1", "2.ann 1 put 0. a leaf 2")
        self.told(deeds, 2, (2, ((2, "ann"),), (((1, "ann"), ("leaf", 1), True, (ROOT, "a", (1, "ann"))), ((2, "ann"), ("leaf", 2), True, (ROOT, "a", (2, "ann")))), ()))

    def test_what_is_named_above_is_kept_and_what_lies_in_it(self):
        deeds = read(
            "1.ann 0 put 0. a object", "2.ann 1 put 1.ann l list", "3.ann 2 put 2.ann 0. leaf 3", "4.ann 3 put 2.ann 3.ann text", "5.ann 4 put 4.ann 0. sign x", "6.ann 5 take 1.ann",
        )
        one, two = ((1, "ann"), ("object",), True, None), ((2, "ann"), ("list",), True, ((1, "ann"), "l", (2, "ann")))
        three, four, five = (
            ((3, "ann"), ("leaf", 3), True, ((2, "ann"), "", (3, "ann"))), ((4, "ann"), ("text",), True, ((2, "ann"), "", (4, "ann"))),
            ((5, "ann"), ("sign", "x"), True, ((4, "ann"), "", (5, "ann"))),
        )
        rows = (((2, "ann"), ((3, "ann"), (4, "ann"))), ((4, "ann"), ((5, "ann"),)))
        heads = ((6, "ann"),)
        self.told(deeds, 6, (6, heads, (), ()))
        for text in ("7.bob 0 move 1.ann 0. z", "7.bob 0 take 1.ann", "7.bob 0 put 1.ann z leaf 1"):
            self.told([*deeds, *read(text)], 6, (6, heads, (one, two, three, four, five), rows))
        # It lies in what isn't kept.
        cut = (*two[:3], None)
        for text in ("7.bob 0 move 2.ann 0. z", "7.bob 0 take 2.ann", "7.bob 0 put 2.ann 0. leaf 1"):
            self.told([*deeds, *read(text)], 6, (6, heads, (cut, three, four, five), rows))
        cut = (*four[:3], None)
        for text in ("7.bob 0 move 4.ann 0. z", "7.bob 0 take 4.ann", "7.bob 0 put 4.ann 0. sign x"):
            self.told([*deeds, *read(text)], 6, (6, heads, (cut, five), rows[1:]))
        self.told([*deeds, *read("7.bob 0 take 5.ann")], 6, (6, heads, ((*five[:3], None),), ()))

    def test_undone_and_skipped_ones_above_keep_things_too(self):
        deeds = read("1.ann 0 put 0. a object", "2.ann 1 take 1.ann")
        kept = (2, ((2, "ann"),), (((1, "ann"), ("object",), True, None),), ())
        self.told([*deeds, *read("3.bob 0 take 1.ann", "4.bob 3 undo 3.bob")], 2, kept)
        self.told([*deeds, *read("3.bob 0 move 1.ann 1.ann x")], 2, kept)

    def test_an_undo_above_keeps_nothing(self):
        deeds = read("1.ann 0 put 0. a object", "2.ann 1 take 1.ann", "3.bob 0 put 0. b list", "4.bob 3 undo 3.bob")
        self.told(deeds, 2, (2, ((2, "ann"),), (), ()))

    def test_kept_things_that_are_not_made(self):
        deeds = read("1.ann 0 put 0. a list", "2.ann 1 put 1.ann 0. leaf 2", "3.ann 2 put 1.ann 2.ann leaf 3", "4.bob 0 undo 1.ann", "5.bob 4 undo 2.ann")
        self.told(deeds, 5, (5, ((3, "ann"), (5, "bob")), (), ()))
        self.told([*deeds, *read("6.cy 0 move 1.ann 0. x")], 5, (
            5, ((3, "ann"), (5, "bob")), (((1, "ann"), ("list",), False, None), ((3, "ann"), ("leaf", 3), True, ((1, "ann"), "", (3, "ann")))), (((1, "ann"), ((3, "ann"),)),),
        ))
        self.told([*deeds, *read("6.cy 0 take 2.ann")], 5, (5, ((3, "ann"), (5, "bob")), (((2, "ann"), ("leaf", 2), False, None),), ()))

    def test_orders(self):
        deeds = read(
            "1.ann 0 put 0. a list", "2.ann 1 put 1.ann 0. leaf 2", "3.ann 2 put 1.ann 2.ann leaf 3", "4.ann 3 put 1.ann 3.ann leaf 4", "5.ann 4 take 3.ann", "6.ann 5 move 2.ann 1.ann 4.ann",
            "7.ann 6 put 0. b list", "8.ann 7 put 0. c text",
        )
        rows = [((1, "ann"), stamps("4.ann 6.ann"))]
        self.assertEqual([(holder, list(row)) for holder, row in ground_of(deeds, 8)[3]], rows)
        for text, row in (("9.bob 0 put 1.ann 3.ann leaf 1", "3.ann 4.ann 6.ann"), ("9.bob 0 put 1.ann 2.ann leaf 1", "2.ann 4.ann 6.ann"), ("9.bob 0 move 4.ann 1.ann 2.ann", "2.ann 4.ann 6.ann"), ("9.bob 0 put 1.ann 0. leaf 1", "4.ann 6.ann"), ("9.bob 0 put 7.ann 0. leaf 1", "4.ann 6.ann")):
            self.assertEqual(ground_of([*deeds, *read(text)], 8)[3], (((1, "ann"), tuple(stamps(row))),))

    def test_a_place_of_another_holder_is_not_kept(self):
        deeds = read("1.ann 0 put 0. a list", "2.ann 1 put 0. b list", "3.ann 2 put 1.ann 0. leaf 3", "4.ann 3 move 3.ann 2.ann 0.", "5.bob 0 put 1.ann 3.ann leaf 5")
        self.assertEqual(ground_of(deeds, 4)[3], (((1, "ann"), ((3, "ann"),)), ((2, "ann"), ((4, "ann"),))))

    def test_positions_by_order_not_by_stamps(self):
        deeds = read("1.ann 0 put 0. a list", "2.ann 1 put 1.ann 0. leaf 2", "3.ann 2 put 1.ann 0. leaf 3", "4.ann 3 put 1.ann 2.ann leaf 4", "5.ann 4 put 1.ann 3.ann leaf 5")
        self.assertEqual(ground_of(deeds, 5)[3], (((1, "ann"), tuple(stamps("3.ann 5.ann 2.ann 4.ann"))),))

    def test_what_is_told_below_is_told_of_the_deeds_below_alone(self):
        deeds = read("1.ann 0 put 0. a object", "2.ann 1 put 0. b object", "3.ann 2 move 1.ann 2.ann x", "5.bob 0 take 2.ann", "6.bob 5 put 0. c leaf 1")
        self.assertEqual(ground_of(deeds, 3)[2], (((1, "ann"), ("object",), True, ((2, "ann"), "x", (3, "ann"))), ((2, "ann"), ("object",), True, (ROOT, "b", (2, "ann")))))

    def test_not_clean(self):
        for upto in (-1, -HUGE, 3, 7, 8, 9):
            self.refused(UNDOS, upto)
        self.refused([], -1)
        for thing in (True, False, None, "0"):
            self.refused([], thing)

    def test_kinds(self):
        told = ground_of(BELOW + ABOVE, 10)
        self.assertEqual([type(part) for part in told], [int, tuple, tuple, tuple])
        self.assertEqual({type(row) for part in told[1:] for row in part}, {tuple})
        self.assertEqual({type(row[2]) for row in told[2]}, {bool})
        self.assertEqual({type(row[1]) for row in told[3]}, {tuple})

    def test_leaves_are_told_apart(self):
        for v in (None, True, False, 0, 1, 10 ** 30 - 1):
            told = ground_of([((1, "ann"), 0, ("put", ROOT, "a", ("leaf", v)))], 1)
            self.assertEqual(repr(told[2][0][1]), repr(("leaf", v)))

    def test_a_hundred_holders(self):
        chain = row_of("ann", [("put", ROOT, "a", ("list",))] + [("put", (at, "ann"), ROOT, ("list",)) for at in range(1, 120)])
        for upto in (1, 60, 119, 120):
            told = ground_of(chain, upto)
            self.assertEqual([row[0] for row in told[2]], [(at, "ann") for at in range(1, upto + 1)])
            self.assertEqual(strict(shown(above_of(chain, upto), ground=told)), strict(shown(chain)))


class UponAGround(Grounds):
    def test_for_its_own_number(self):
        self.told(ABOVE, 10, GROUND, GROUND)
        self.told([], 10, (10, ((9, "ann"), (10, "bob")), tuple(row for row in GROUND[2] if row[0] not in ((4, "bob"), (6, "bob"))), (
            ((2, "ann"), ((7, "ann"), (8, "bob"))), ((3, "bob"), ((6, "ann"),)),
        )), GROUND)

    def test_for_greater_ones(self):
        for upto in range(10, 16):
            self.told(ABOVE, upto, ground_of(BELOW + ABOVE, upto), GROUND)
            self.assertEqual(ground_of(ABOVE, upto, ground=GROUND)[0], upto)

    def test_elder_heads(self):
        deeds = read("11.cy 0 seen 0", "15.ann 7 seen 0", "16.ann 9 seen 0")
        self.assertEqual(ground_of(deeds, 11, ground=GROUND)[1], tuple(stamps("7.ann 9.ann 10.bob 11.cy")))
        self.assertEqual(ground_of(deeds, 15, ground=GROUND)[1], tuple(stamps("9.ann 10.bob 11.cy 15.ann")))
        self.assertEqual(ground_of(deeds, 16, ground=GROUND)[1], tuple(stamps("10.bob 11.cy 16.ann")))
        self.assertEqual(ground_of([], 12, ground=GROUND)[1], tuple(stamps("9.ann 10.bob")))

    def test_not_clean(self):
        for upto in (-1, 0, 1, 9):
            self.refused(ABOVE, upto, GROUND)
        self.refused([*ABOVE, *read("15.cy 14 undo 12.bob")], 12, GROUND)
        self.refused([*ABOVE, *read("15.cy 14 undo 12.bob")], 14, GROUND)

    def test_told_of_the_whole_set_or_of_the_deeds_beside_a_ground(self):
        tried = 0
        for seed in range(40):
            deeds = drawn(seed)
            clean = [number for number in numbers_of(deeds) if is_clean(deeds, number)]
            whole = {number: ground_of(deeds, number) for number in clean}
            for number in clean[::3]:
                above = above_of(deeds, number)
                for greater in clean:
                    if greater >= number:
                        self.assertEqual(repr(ground_of(above, greater, ground=whole[number])), repr(whole[greater]))
                        tried += 1
                self.assertEqual([n for n in numbers_of(deeds) if is_clean(above, n, ground=whole[number])], [n for n in clean if n >= number])
        self.assertGreater(tried, 1000)

    def test_one_upon_the_other_many_times(self):
        for seed in range(12):
            deeds = drawn(seed)
            ground, rest = BARE, deeds
            for number in numbers_of(deeds):
                if is_clean(deeds, number):
                    ground = ground_of(rest, number, ground=ground)
                    rest = above_of(rest, number)
                    self.assertEqual(repr(ground), repr(ground_of(deeds, number)))
                    self.assertEqual(strict(shown(rest, ground=ground)), strict(shown(deeds)))


class Drawn(Grounds):
    def test_as_the_document_says(self):
        for seed in range(40):
            deeds = drawn(seed)
            model = Model(deeds)
            for upto in numbers_of(deeds):
                if model.is_clean(upto):
                    self.assertEqual(repr(ground_of(deeds, upto)), repr(model.ground(upto)))
                else:
                    self.refused(deeds, upto)

    def test_as_the_document_says_beside_a_ground(self):
        for seed in range(15):
            deeds = drawn(seed)
            clean = [number for number in numbers_of(deeds) if is_clean(deeds, number)]
            for number in clean[::4]:
                ground = ground_of(deeds, number)
                # Some later deeds are lacking, so this is not what the ground was told of, but a set that it allows.
                rest = above_of(deeds, number)[::2]
                model = Model(rest, ground)
                for upto in numbers_of(deeds):
                    self.assertIs(is_clean(rest, upto, ground=ground), model.is_clean(upto))
                    if model.is_clean(upto):
                        self.assertEqual(repr(ground_of(rest, upto, ground=ground)), repr(model.ground(upto)))

    def test_beside_its_ground_all_is_as_in_the_whole_set(self):
        for seed in range(30):
            deeds = drawn(seed)
            for upto in numbers_of(deeds):
                if is_clean(deeds, upto):
                    self.held(deeds, upto)

    def held(self, deeds, upto):
        ground = ground_of(deeds, upto)
        above = above_of(deeds, upto)
        model = Model(deeds)
        self.assertEqual(standing(above, ground=ground), above_of(standing(deeds), upto))
        self.assertEqual([stamp for stamp, _ in waiting(above, ground=ground)], [stamp for stamp, _ in waiting(deeds) if stamp[0] > upto])
        self.assertEqual(table(above, ground=ground), table(deeds))
        self.assertEqual(counting(above, ground=ground), [stamp for stamp in counting(deeds) if stamp[0] > upto])
        self.assertEqual(undone(above, ground=ground), [row for row in undone(deeds) if row[0][0] > upto])
        self.assertEqual(skipped(above, ground=ground), [row for row in skipped(deeds) if row[0][0] > upto])
        self.assertEqual(strict(shown(above, ground=ground)), strict(shown(deeds)))
        there = {thing: lie for thing, lie in lies(deeds).items() if model.in_tree(thing)}
        told = lies(above, ground=ground)
        self.assertEqual({thing: told.get(thing) for thing in there}, there)
        self.assertEqual({thing: depths(above, ground=ground)[thing] for thing in there}, {thing: depths(deeds)[thing] for thing in there})
        for thing in there:
            if model.what(thing)[0] in ("list", "text"):
                positions = order(above, thing, ground=ground)
                self.assertEqual(positions, [position for position in order(deeds, thing) if position in positions])
        self.not_kept(deeds, upto, ground, there)

    def not_kept(self, deeds, upto, ground, there):
        """What is below and not kept is neither in the tree nor named above as a thing or a parent."""
        kept = [row[0] for row in ground[2]]
        named = [thing_of(deed) for deed in above_of(standing(deeds), upto)]
        named += [target_of(deed)[0] for deed in above_of(standing(deeds), upto) if target_of(deed)]
        for deed in standing(deeds):
            if deed[2][0] == "put" and deed[0][0] <= upto and deed[0] not in kept:
                self.assertNotIn(deed[0], there)
                self.assertNotIn(deed[0], named)


class Handing(unittest.TestCase):
    def test_what_is_handed_in_stays(self):
        for deeds, ground in ((list(reversed(BELOW + ABOVE)), BARE), (list(ABOVE), GROUND), ([], BARE)):
            ahead = repr((deeds, ground))
            for ask in (is_clean, cleaned, ground_of):
                told = [repr(ask(deeds, 10, ground=ground)) for _ in range(2)]
                self.assertEqual(told[0], told[1])
            self.assertEqual(repr((deeds, ground)), ahead)

    def test_arguments_by_their_names(self):
        for ask in (is_clean, cleaned, ground_of):
            self.assertEqual(ask(ground=GROUND, upto=11, deeds=ABOVE), ask(ABOVE, 11, ground=GROUND))
            self.assertEqual(repr(ask(UNDOS, 6)), repr(ask(UNDOS, 6, ground=BARE)))
            with self.assertRaises(TypeError):
                ask(ABOVE, 11, GROUND)

    def test_the_interface(self):
        for name in ("is_clean", "cleaned", "ground_of"):
            told = getattr(grounds, name)
            self.assertEqual(told.__module__, "heardalike.grounds")
            self.assertEqual(str(inspect.signature(told)), "(deeds, upto, *, ground=(0, (), (), ()))")


if __name__ == "__main__":
    unittest.main()
