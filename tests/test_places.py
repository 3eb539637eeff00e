"""Points 15, 16 and 17, and of 4 that no thing ever lies in itself."""

import inspect
import unittest

from heardalike import places
from heardalike.places import depths, lies, skipped
from heardalike.stamps import ROOT
from heardalike.standing import BARE
from tests.grounds import ABOVE, GROUND
from tests.model import Model
from tests.sets import drawn, orders, read, row_of, stamp


def lie(text):
    """How a thing lies, written as its parent, its field and its position: "0. a 1.ann"; "nowhere"."""
    if text == "nowhere":
        return None
    parent, field, position = text.split(" ")
    return (stamp(parent), field, stamp(position))


def way(text):
    """A way, written as its things, each with its position, the last one without."""
    words = [stamp(word) for word in text.split(" ")]
    return list(zip(words[::2], [*words[1::2], None]))


class Places(unittest.TestCase):
    def told(self, deeds, lying, ways=(), ground=BARE):
        """In whatever order they are handed in things lie so, and these moves are skipped."""
        for handed in orders(deeds):
            self.assertEqual(lies(handed, ground=ground), {stamp(thing): lie(text) for thing, text in lying.items()})
            self.assertEqual(skipped(handed, ground=ground), [(stamp(one), way(text)) for one, text in ways])

    def deep(self, deeds, told, ground=BARE):
        for handed in orders(deeds):
            self.assertEqual(depths(handed, ground=ground), {stamp(thing): depth for thing, depth in told.items()})


HOLDERS = read(
    "1.ann 0 put 0. o object",
    "2.ann 1 put 0. l list",
    "3.ann 2 put 0. t text",
    "4.ann 3 put 0. v leaf 4",
)
LYING = {"1.ann": "0. o 1.ann", "2.ann": "0. l 2.ann", "3.ann": "0. t 3.ann", "4.ann": "0. v 4.ann"}


class Lies(Places):
    def test_no_deeds(self):
        self.told([], {})
        self.told(read("1.ann 0 seen 0"), {})

    def test_puts_in_each_holder(self):
        deeds = [*HOLDERS, *read("5.bob 0 put 1.ann x leaf 5", "6.bob 5 put 2.ann 0. leaf 6", "7.bob 6 put 2.ann 6.bob object", "8.bob 7 put 3.ann 0. sign y")]
        self.told(deeds, {
            **LYING, "5.bob": "1.ann x 5.bob", "6.bob": "2.ann  6.bob", "7.bob": "2.ann  7.bob", "8.bob": "3.ann  8.bob",
        })

    def test_moves(self):
        deeds = [*HOLDERS, *read("5.bob 0 move 4.ann 1.ann x", "6.cy 0 move 4.ann 2.ann 0.", "7.bob 5 move 1.ann 2.ann 6.cy", "8.bob 7 move 2.ann 0. o")]
        self.told(deeds[:5], {**LYING, "4.ann": "1.ann x 5.bob"})
        self.told(deeds[:6], {**LYING, "4.ann": "2.ann  6.cy"})
        self.told(deeds, {**LYING, "4.ann": "2.ann  6.cy", "1.ann": "2.ann  7.bob", "2.ann": "0. o 8.bob"})
        self.told([*deeds[:4], *deeds[5:]], {**LYING, "4.ann": "2.ann  6.cy", "2.ann": LYING["2.ann"]}, [])

    def test_moves_of_signs(self):
        deeds = [*HOLDERS, *read("5.bob 0 put 3.ann 0. sign x", "6.bob 5 put 3.ann 5.bob sign y", "7.bob 6 move 5.bob 3.ann 6.bob")]
        self.told(deeds, {**LYING, "5.bob": "3.ann  7.bob", "6.bob": "3.ann  6.bob"})

    def test_the_greatest_stamp_goes_last_with_like_counts(self):
        deeds = [*HOLDERS, *read("5.ann 4 move 4.ann 0. a", "5.bob 0 move 4.ann 0. b", "5.cy 0 move 4.ann 0. c")]
        self.told(deeds, {**LYING, "4.ann": "0. c 5.cy"})
        self.told(deeds[:6], {**LYING, "4.ann": "0. b 5.bob"})

    def test_takes(self):
        deeds = [*HOLDERS, *read("5.bob 0 take 4.ann")]
        self.told(deeds, {**LYING, "4.ann": "nowhere"})
        self.told([*deeds, *read("6.cy 0 take 4.ann")], {**LYING, "4.ann": "nowhere"})

    def test_a_take_ahead_of_and_behind_a_move(self):
        self.told([*HOLDERS, *read("5.bob 0 take 4.ann", "6.cy 0 move 4.ann 1.ann x")], {**LYING, "4.ann": "1.ann x 6.cy"})
        self.told([*HOLDERS, *read("6.bob 0 take 4.ann", "5.cy 0 move 4.ann 1.ann x")], {**LYING, "4.ann": "nowhere"})
        self.told([*HOLDERS, *read("5.bob 0 take 4.ann", "5.cy 0 move 4.ann 1.ann x")], {**LYING, "4.ann": "1.ann x 5.cy"})
        self.told([*HOLDERS, *read("5.cy 0 take 4.ann", "5.bob 0 move 4.ann 1.ann x")], {**LYING, "4.ann": "nowhere"})

    def test_a_deed_undone_between(self):
        deeds = [*HOLDERS, *read("5.bob 0 move 4.ann 1.ann x", "6.bob 5 take 4.ann", "7.bob 6 move 4.ann 2.ann 0.")]
        for undo, told in (("undo 7.bob", "nowhere"), ("undo 6.bob", "2.ann  7.bob"), ("undo 5.bob", "2.ann  7.bob")):
            self.told([*deeds, *read("8.cy 0 " + undo)], {**LYING, "4.ann": told})
        self.told([*deeds, *read("8.cy 0 undo 7.bob", "9.cy 8 undo 6.bob")], {**LYING, "4.ann": "1.ann x 5.bob"})
        self.told([*deeds, *read("8.cy 0 undo 7.bob", "9.cy 8 undo 6.bob", "10.cy 9 undo 5.bob")], LYING)
        self.told([*deeds, *read("8.cy 0 undo 7.bob", "9.cy 8 undo 8.cy")], {**LYING, "4.ann": "2.ann  7.bob"})

    def test_an_undone_put_with_moves_and_takes_of_its_thing(self):
        deeds = [*HOLDERS, *read(
            "5.bob 0 put 1.ann x object", "6.bob 5 move 5.bob 2.ann 0.", "7.bob 6 move 5.bob 5.bob y", "8.bob 7 take 5.bob", "9.bob 8 move 5.bob 0. z",
        )]
        self.told(deeds, {**LYING, "5.bob": "0. z 9.bob"}, [("7.bob", "5.bob")])
        self.told([*deeds, *read("10.cy 0 undo 5.bob")], LYING)
        self.told([*deeds, *read("10.cy 0 undo 5.bob", "11.cy 10 undo 10.cy")], {**LYING, "5.bob": "0. z 9.bob"}, [("7.bob", "5.bob")])

    def test_a_holder_that_is_not_made_with_things_in_it(self):
        deeds = [*HOLDERS, *read("5.bob 0 put 1.ann x leaf 5", "6.bob 5 move 2.ann 1.ann y", "7.bob 6 undo 1.ann", "8.bob 7 put 2.ann 0. leaf 8")]
        lying = {thing: told for thing, told in LYING.items() if thing != "1.ann"}
        self.told(deeds, {**lying, "2.ann": "1.ann y 6.bob", "5.bob": "1.ann x 5.bob", "8.bob": "2.ann  8.bob"})
        self.deep(deeds, {"2.ann": 1, "3.ann": 1, "4.ann": 1, "5.bob": 1, "8.bob": 2})

    def test_what_lies_in_a_taken_thing_lies_there_still(self):
        deeds = [*HOLDERS, *read("5.bob 0 put 1.ann x object", "6.bob 5 put 5.bob y leaf 6", "7.bob 6 take 1.ann")]
        self.told(deeds, {**LYING, "1.ann": "nowhere", "5.bob": "1.ann x 5.bob", "6.bob": "5.bob y 6.bob"})
        self.deep(deeds, {"1.ann": 0, "2.ann": 1, "3.ann": 1, "4.ann": 1, "5.bob": 1, "6.bob": 2})

    def test_several_at_one_field(self):
        deeds = read("1.ann 0 put 0. a leaf 1", "1.bob 0 put 0. a leaf 2", "2.cy 0 put 0. a list")
        self.told(deeds, {"1.ann": "0. a 1.ann", "1.bob": "0. a 1.bob", "2.cy": "0. a 2.cy"})

    def test_waiting_deeds_lay_nothing(self):
        deeds = [*HOLDERS, *read("6.bob 5 move 4.ann 0. a", "7.cy 0 put 0. a sign x", "8.dan 7 take 4.ann", "9.eve 0 move 7.cy 0. b", "10.fay 9 undo 4.ann")]
        self.told(deeds, LYING)


class Skipped(Places):
    def test_a_move_into_itself(self):
        self.told([*HOLDERS, *read("5.bob 0 move 1.ann 1.ann x")], LYING, [("5.bob", "1.ann")])
        self.told([*HOLDERS, *read("5.bob 0 move 2.ann 2.ann 0.")], LYING, [("5.bob", "2.ann")])

    def test_a_move_into_what_lies_in_it(self):
        deeds = [*HOLDERS, *read("5.bob 0 put 1.ann x object", "6.bob 5 put 5.bob y list")]
        lying = {**LYING, "5.bob": "1.ann x 5.bob", "6.bob": "5.bob y 6.bob"}
        self.told([*deeds, *read("7.cy 0 move 1.ann 5.bob z")], lying, [("7.cy", "5.bob 5.bob 1.ann")])
        self.told([*deeds, *read("7.cy 0 move 1.ann 6.bob 0.")], lying, [("7.cy", "6.bob 6.bob 5.bob 5.bob 1.ann")])
        self.told([*deeds, *read("7.cy 0 move 5.bob 6.bob 0.")], lying, [("7.cy", "6.bob 6.bob 5.bob")])

    def test_a_ring_of_two_moves(self):
        deeds = [*HOLDERS, *read("5.bob 0 move 1.ann 2.ann 0.", "5.cy 0 move 2.ann 1.ann x")]
        self.told(deeds, {**LYING, "1.ann": "2.ann  5.bob"}, [("5.cy", "1.ann 5.bob 2.ann")])
        self.told([*HOLDERS, *read("5.cy 0 move 1.ann 2.ann 0.", "5.bob 0 move 2.ann 1.ann x")],
                  {**LYING, "2.ann": "1.ann x 5.bob"}, [("5.cy", "2.ann 5.bob 1.ann")])

    def test_a_ring_of_three_moves(self):
        deeds = read(
            "1.ann 0 put 0. a list", "1.bob 0 put 0. b list", "1.cy 0 put 0. c list",
            "2.ann 1 move 1.ann 1.bob 0.", "3.bob 1 move 1.bob 1.cy 0.", "4.cy 1 move 1.cy 1.ann 0.",
        )
        self.told(deeds, {"1.ann": "1.bob  2.ann", "1.bob": "1.cy  3.bob", "1.cy": "0. c 1.cy"}, [("4.cy", "1.ann 2.ann 1.bob 3.bob 1.cy")])
        self.told([*deeds, *read("5.dan 0 undo 2.ann")], {"1.ann": "0. a 1.ann", "1.bob": "1.cy  3.bob", "1.cy": "1.ann  4.cy"})
        self.told([*deeds, *read("5.dan 0 undo 3.bob")], {"1.ann": "1.bob  2.ann", "1.bob": "0. b 1.bob", "1.cy": "1.ann  4.cy"})
        self.told([*deeds, *read("5.dan 0 undo 4.cy")], {"1.ann": "1.bob  2.ann", "1.bob": "1.cy  3.bob", "1.cy": "0. c 1.cy"})

    def test_several_are_told_rising(self):
        deeds = [*HOLDERS, *read("10.bob 0 move 1.ann 1.ann x", "9.cy 0 move 2.ann 2.ann 0.", "9.dan 0 move 1.ann 2.ann 0.", "11.eve 0 move 2.ann 1.ann z")]
        self.told(deeds, {**LYING, "1.ann": "2.ann  9.dan"}, [("9.cy", "2.ann"), ("10.bob", "1.ann"), ("11.eve", "1.ann 9.dan 2.ann")])

    def test_at_its_turn(self):
        ring = [*HOLDERS, *read("5.bob 0 move 1.ann 2.ann 0.", "8.cy 0 move 2.ann 1.ann x")]
        self.told([*ring, *read("6.dan 0 take 1.ann")], {**LYING, "1.ann": "nowhere", "2.ann": "1.ann x 8.cy"})
        self.told([*ring, *read("6.dan 0 move 1.ann 0. y")], {**LYING, "1.ann": "0. y 6.dan", "2.ann": "1.ann x 8.cy"})
        self.told([*ring, *read("9.dan 0 take 1.ann")], {**LYING, "1.ann": "nowhere"}, [("8.cy", "1.ann 5.bob 2.ann")])
        self.told([*ring, *read("9.dan 0 move 1.ann 0. y")], {**LYING, "1.ann": "0. y 9.dan"}, [("8.cy", "1.ann 5.bob 2.ann")])

    def test_a_skipped_move_does_nothing_to_later_ones(self):
        deeds = [*HOLDERS, *read("5.bob 0 move 1.ann 2.ann 0.", "6.cy 0 move 2.ann 1.ann x", "7.dan 0 move 1.ann 0. y", "8.eve 0 move 4.ann 2.ann 5.bob")]
        self.told(deeds, {**LYING, "1.ann": "0. y 7.dan", "4.ann": "2.ann  8.eve"}, [("6.cy", "1.ann 5.bob 2.ann")])

    def test_undone_and_waiting_moves_are_not_skipped(self):
        deeds = [*HOLDERS, *read("5.bob 0 move 1.ann 1.ann x", "7.cy 6 move 2.ann 2.ann 0.", "8.dan 0 undo 5.bob")]
        self.told(deeds, LYING)
        self.told([*deeds, *read("9.dan 8 undo 8.dan")], LYING, [("5.bob", "1.ann")])

    def test_into_what_is_not_made(self):
        deeds = [*HOLDERS, *read("5.bob 0 put 1.ann x object", "6.bob 5 move 1.ann 5.bob y", "7.cy 0 undo 5.bob")]
        self.told(deeds[:6], {**LYING, "5.bob": "1.ann x 5.bob"}, [("6.bob", "5.bob 5.bob 1.ann")])
        self.told(deeds, {**LYING, "1.ann": "5.bob y 6.bob"})
        self.deep(deeds, {"1.ann": 1, "2.ann": 1, "3.ann": 1, "4.ann": 1})

    def test_a_way_through_what_is_not_made_ends_there(self):
        deeds = [*HOLDERS, *read("5.bob 0 put 1.ann x object", "6.bob 5 put 5.bob y object", "7.cy 0 undo 5.bob", "8.dan 0 move 1.ann 6.bob z")]
        self.told(deeds, {**LYING, "1.ann": "6.bob z 8.dan", "6.bob": "5.bob y 6.bob"})
        self.deep(deeds, {"1.ann": 2, "2.ann": 1, "3.ann": 1, "4.ann": 1, "6.bob": 1})

    def test_a_way_of_a_hundred_steps(self):
        for many in (100, 119):
            nest = row_of("ann", [("put", ROOT, "a", ("list",))] + [("put", (at, "ann"), ROOT, ("list",)) for at in range(1, many)])
            move = ((many + 1, "ann"), many, ("move", (1, "ann"), (many, "ann"), ROOT))
            told = skipped([move, *reversed(nest)])
            steps = [((at, "ann"), (at, "ann") if at > 1 else None) for at in range(many, 0, -1)]
            self.assertEqual(told, [((many + 1, "ann"), steps)])
            self.assertEqual(lies([*nest, move]), lies(nest))
            self.assertEqual(depths([move, *nest]), {(at, "ann"): at for at in range(1, many + 1)})

    def test_a_ring_of_sixty_moves(self):
        puts = row_of("ann", [("put", ROOT, "a", ("object",))] * 60)
        moves = row_of("ann", [("move", (at, "ann"), (at % 60 + 1, "ann"), "x") for at in range(1, 61)], 61)
        moves[0] = (moves[0][0], 60, moves[0][2])
        told = skipped(puts + moves)
        steps = [((at, "ann"), (at + 60, "ann") if at < 60 else None) for at in range(1, 61)]
        self.assertEqual(told, [((120, "ann"), steps)])
        self.assertEqual(depths(puts + moves), {(at, "ann"): 61 - at for at in range(1, 61)})


class Depths(Places):
    def test_depths(self):
        deeds = [*HOLDERS, *read("5.bob 0 put 1.ann x list", "6.bob 5 put 5.bob 0. object", "7.bob 6 put 6.bob y leaf 7", "8.bob 7 put 3.ann 0. sign x")]
        self.deep([], {})
        self.deep(deeds, {"1.ann": 1, "2.ann": 1, "3.ann": 1, "4.ann": 1, "5.bob": 2, "6.bob": 3, "7.bob": 4, "8.bob": 2})
        self.deep([*deeds, *read("9.cy 0 take 6.bob")], {"1.ann": 1, "2.ann": 1, "3.ann": 1, "4.ann": 1, "5.bob": 2, "6.bob": 0, "7.bob": 1, "8.bob": 2})
        self.deep([*deeds, *read("9.cy 0 undo 6.bob")], {"1.ann": 1, "2.ann": 1, "3.ann": 1, "4.ann": 1, "5.bob": 2, "7.bob": 1, "8.bob": 2})
        self.deep([*deeds, *read("9.cy 0 move 6.bob 0. z")], {"1.ann": 1, "2.ann": 1, "3.ann": 1, "4.ann": 1, "5.bob": 2, "6.bob": 1, "7.bob": 2, "8.bob": 2})


GROUND_LIES = {
    "1.ann": "0. a 1.ann", "2.ann": "0. b 2.ann", "3.bob": "0. c 3.bob", "5.ann": "2.ann  7.ann", "6.ann": "3.bob  6.ann", "6.bob": "nowhere",
    "8.bob": "2.ann  8.bob",
}
GROUND_DEPTHS = {"1.ann": 1, "2.ann": 1, "3.bob": 1, "5.ann": 2, "6.ann": 2, "6.bob": 0, "8.bob": 2}


class Beside(Places):
    def test_the_ground_alone(self):
        self.told([], GROUND_LIES, [], GROUND)
        self.deep([], GROUND_DEPTHS, GROUND)

    def test_later_deeds(self):
        self.told(ABOVE, {**GROUND_LIES, "12.bob": "4.bob  12.bob", "6.bob": "0. a 13.ann", "14.cy": "2.ann  14.cy"}, [], GROUND)
        self.deep(ABOVE, {**GROUND_DEPTHS, "12.bob": 1, "6.bob": 1, "14.cy": 2}, GROUND)

    def test_moves_and_takes_of_its_things(self):
        for words, thing, told in (
            ("move 5.ann 0. f", "5.ann", "0. f 11.cy"), ("move 5.ann 2.ann 0.", "5.ann", "2.ann  11.cy"), ("take 5.ann", "5.ann", "nowhere"),
            ("move 5.ann 4.bob 0.", "5.ann", "4.bob  11.cy"), ("move 1.ann 2.ann 7.ann", "1.ann", "2.ann  11.cy"),
            ("move 6.bob 1.ann g", "6.bob", "1.ann g 11.cy"), ("move 2.ann 6.bob g", "2.ann", "6.bob g 11.cy"),
        ):
            self.told(read("11.cy 0 " + words), {**GROUND_LIES, thing: told}, [], GROUND)
            self.told(read("11.cy 0 " + words, "12.dan 0 undo 11.cy"), GROUND_LIES, [], GROUND)

    def test_moves_and_takes_of_what_is_not_made(self):
        self.told(read("11.cy 0 move 4.bob 0. f", "12.cy 11 take 4.bob", "13.cy 12 move 4.bob 4.bob 0."), GROUND_LIES, [], GROUND)

    def test_skipped_moves(self):
        self.told(read("11.cy 0 move 1.ann 1.ann f"), GROUND_LIES, [("11.cy", "1.ann")], GROUND)
        self.told(read("11.cy 0 put 2.ann 8.bob list", "12.cy 11 move 2.ann 11.cy 0."),
                  {**GROUND_LIES, "11.cy": "2.ann  11.cy"}, [("12.cy", "11.cy 11.cy 2.ann")], GROUND)
        nested = (10, (), (
            ((1, "ann"), ("object",), True, (ROOT, "a", (1, "ann"))), ((2, "ann"), ("list",), True, ((1, "ann"), "b", (5, "bob"))),
            ((3, "ann"), ("object",), True, ((2, "ann"), "", (4, "cy"))),
        ), (((2, "ann"), ((4, "cy"),)),))
        lying = {"1.ann": "0. a 1.ann", "2.ann": "1.ann b 5.bob", "3.ann": "2.ann  4.cy"}
        self.told(read("11.cy 0 move 1.ann 3.ann f"), lying, [("11.cy", "3.ann 4.cy 2.ann 5.bob 1.ann")], nested)
        self.told(read("11.cy 0 take 2.ann", "12.cy 11 move 1.ann 3.ann f"), {**lying, "1.ann": "3.ann f 12.cy", "2.ann": "nowhere"}, [], nested)
        self.deep([], {"1.ann": 1, "2.ann": 2, "3.ann": 3}, nested)
        self.deep(read("11.cy 0 put 3.ann f leaf 1", "12.cy 11 move 3.ann 0. f"), {"1.ann": 1, "2.ann": 2, "3.ann": 1, "11.cy": 2}, nested)

    def test_what_lies_in_what_is_not_made(self):
        ground = (10, (), (((1, "ann"), ("object",), False, None), ((2, "ann"), ("leaf", 2), True, ((1, "ann"), "a", (2, "ann")))), ())
        self.told([], {"2.ann": "1.ann a 2.ann"}, [], ground)
        self.deep(read("11.cy 0 put 1.ann b leaf 3"), {"2.ann": 1, "11.cy": 1}, ground)


class Drawn(unittest.TestCase):
    def held(self, deeds, ground=BARE):
        model = Model(deeds, ground)
        for handed in orders(deeds, 2):
            self.assertEqual(lies(handed, ground=ground), model.lies())
            self.assertEqual(skipped(handed, ground=ground), model.skipped())
            self.assertEqual(depths(handed, ground=ground), model.depths())
        return model

    def test_as_the_document_says(self):
        ways = [told for seed in range(80) for told in self.held(drawn(seed)).skipped()]
        self.assertGreater(len(ways), 40)
        self.assertGreater(max(len(told) for _, told in ways), 2)

    def test_no_thing_lies_in_itself(self):
        for seed in range(80):
            lying = lies(drawn(seed))
            for thing in lying:
                above = []
                while thing is not None and thing != ROOT:
                    self.assertNotIn(thing, above)
                    above.append(thing)
                    thing = (lying.get(thing) or [None])[0]

    def test_beside_grounds(self):
        """Point 33: what is in the tree lies as in the whole set, and the same is skipped by the same ways."""
        for seed in range(25):
            deeds = drawn(seed)
            model = Model(deeds)
            for upto in range(1, max(deed[0][0] for deed in deeds) + 1):
                if model.is_clean(upto):
                    ground = model.ground(upto)
                    above = [deed for deed in deeds if deed[0][0] > upto]
                    self.held(above, ground)
                    self.assertEqual(skipped(above, ground=ground), [row for row in model.skipped() if row[0][0] > upto])
                    lying = lies(above, ground=ground)
                    for thing in model.lies():
                        if model.in_tree(thing):
                            self.assertEqual(lying[thing], model.lies()[thing])


class Handing(unittest.TestCase):
    ASKS = (lies, skipped, depths)

    def test_what_is_handed_in_stays(self):
        for deeds, ground in ((drawn(3), BARE), (list(reversed(ABOVE)), GROUND)):
            ahead = repr((deeds, ground))
            for ask in self.ASKS:
                ask(deeds, ground=ground)
                self.assertEqual(repr((deeds, ground)), ahead)

    def test_told_lists_dicts_and_ways_are_the_askers_own(self):
        deeds = [*ABOVE, *read("15.cy 14 move 1.ann 1.ann x", "16.cy 15 move 1.ann 1.ann y", "17.cy 16 move 2.ann 2.ann 0.")]
        told = skipped(deeds, ground=GROUND)
        ahead = repr(told)
        self.assertIsNot(told[0][1], told[1][1])
        for _, steps in told:
            steps.append(1)
            self.assertEqual(repr(skipped(deeds, ground=GROUND)), ahead)
            steps.clear()
        told.clear()
        self.assertEqual(repr(skipped(deeds, ground=GROUND)), ahead)
        for ask in (lies, depths):
            told = ask(deeds, ground=GROUND)
            ahead = repr(told)
            told[(1, "ann")] = 5
            told["more"] = 6
            self.assertEqual(repr(ask(deeds, ground=GROUND)), ahead)
            told.clear()
            self.assertEqual(repr(ask(deeds, ground=GROUND)), ahead)
        empty = skipped([])
        empty.append(1)
        lies([])["a"] = depths([])["a"] = 1
        self.assertEqual((skipped([]), lies([]), depths([])), ([], {}, {}))

    def test_kinds(self):
        deeds = [*HOLDERS, *read("5.bob 0 move 1.ann 1.ann x")]
        self.assertEqual([type(ask(deeds)) for ask in self.ASKS], [dict, list, dict])
        self.assertEqual([type(skipped(deeds)[0]), type(skipped(deeds)[0][1]), type(skipped(deeds)[0][1][0])], [tuple, list, tuple])
        self.assertEqual({type(told) for told in lies(deeds).values()}, {tuple})

    def test_arguments_by_their_names(self):
        for ask in self.ASKS:
            self.assertEqual(ask(ground=GROUND, deeds=ABOVE), ask(ABOVE, ground=GROUND))
            with self.assertRaises(TypeError):
                ask(ABOVE, GROUND)

    def test_the_interface(self):
        for name in ("lies", "skipped", "depths"):
            told = getattr(places, name)
            self.assertEqual(told.__module__, "heardalike.places")
            self.assertEqual(str(inspect.signature(told)), "(deeds, *, ground=(0, (), (), ()))")


if __name__ == "__main__":
    unittest.main()
