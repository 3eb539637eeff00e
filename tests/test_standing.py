"""Points 9, 10, 11 and the table of 12, and of 4 what it says of what stands."""

import inspect
import unittest

from heardalike import standing as module
from heardalike.deedtexts import deed_of
from heardalike.stamps import ROOT
from heardalike.standing import BARE, standing, table, waiting
from tests.grounds import ABOVE, BELOW, GROUND
from tests.model import Model, written
from tests.sets import drawn, orders, read, row_of, stamp, stamps

STANDS = "stands"

# A thing of each kind in ROOT, one in each holder, another list and another text; one deed of each other word.
SCENE = read(
    "1.ann 0 put 0. o object",
    "2.ann 1 put 0. l list",
    "3.ann 2 put 0. t text",
    "4.ann 3 put 0. v leaf 5",
    "5.ann 4 put 3.ann 0. sign x",
    "6.ann 5 put 2.ann 0. leaf 6",
    "7.ann 6 put 1.ann f leaf 7",
    "8.ann 7 seen 3",
    "9.ann 8 take 7.ann",
    "10.ann 9 undo 9.ann",
    "11.ann 10 move 4.ann 2.ann 6.ann",
    "12.ann 11 put 0. m list",
    "13.ann 12 put 12.ann 0. leaf 13",
    "14.ann 13 put 0. u text",
    "15.ann 14 put 14.ann 0. sign y",
)


class Standing(unittest.TestCase):
    def told(self, deeds, stands, waits, ground=BARE):
        """In whatever order they are handed in these stand, and these wait."""
        for handed in orders(deeds):
            self.assertEqual([deed[0] for deed in standing(handed, ground=ground)], stamps(stands))
            lacks = [(stamp(one), None if lacking is None else stamp(lacking)) for one, lacking in waits]
            self.assertEqual(waiting(handed, ground=ground), lacks)

    def lacks(self, scene, deed, lacking, ground=BARE):
        """Beside the scene the deed stands, or lacks this."""
        deeds = [deed_of(deed), *scene]
        own = deed_of(deed)[0]
        told = dict(waiting(deeds, ground=ground))
        stood = [one[0] for one in standing(deeds, ground=ground)]
        self.assertEqual([one for one in stood if one != own], [one[0] for one in standing(scene, ground=ground)])
        self.assertEqual(own in stood, lacking == STANDS, deed)
        self.assertEqual(own not in told, lacking == STANDS, deed)
        if lacking != STANDS:
            self.assertEqual(told[own], None if lacking is None else stamp(lacking), deed)

    def words(self, rows, ground=BARE, scene=SCENE):
        for words, lacking in rows:
            self.lacks(scene, "20.bob 0 " + words, lacking, ground)


class Fits(Standing):
    def test_the_scene_stands(self):
        self.assertEqual(written(standing(SCENE)), written(SCENE))
        self.assertEqual(waiting(SCENE), [])

    def test_put_in_root(self):
        self.words([
            ("put 0. f object", STANDS), ("put 0. f list", STANDS), ("put 0. f text", STANDS), ("put 0. f leaf 1", STANDS),
            ("put 0. f leaf none", STANDS), ("put 0. o leaf no", STANDS), ("put 0. f sign x", None), ("put 0. 0. leaf 1", None),
            ("put 0. 1.ann leaf 1", None), ("put 0. 6.ann list", None), ("put 0. 0. sign x", None),
        ])

    def test_put_in_an_object(self):
        self.words([
            ("put 1.ann f object", STANDS), ("put 1.ann f list", STANDS), ("put 1.ann f text", STANDS), ("put 1.ann g leaf 1", STANDS),
            ("put 1.ann f sign x", None), ("put 1.ann 0. leaf 1", None), ("put 1.ann 7.ann leaf 1", None),
            ("put 1.ann 6.ann leaf 1", None), ("put 1.ann 1.ann leaf 1", None), ("put 1.ann 0. sign x", None),
        ])

    def test_put_in_a_list(self):
        self.words([
            ("put 2.ann 0. object", STANDS), ("put 2.ann 0. list", STANDS), ("put 2.ann 0. text", STANDS), ("put 2.ann 0. leaf 1", STANDS),
            ("put 2.ann 6.ann leaf 1", STANDS), ("put 2.ann 11.ann leaf 1", STANDS), ("put 2.ann 0. sign x", None),
            ("put 2.ann 6.ann sign x", None), ("put 2.ann f leaf 1", None), ("put 2.ann f sign x", None),
        ])

    def test_put_in_a_text(self):
        self.words([
            ("put 3.ann 0. sign x", STANDS), ("put 3.ann 5.ann sign x", STANDS), ("put 3.ann 0. leaf 1", None),
            ("put 3.ann 0. object", None), ("put 3.ann 0. list", None), ("put 3.ann 5.ann text", None),
            ("put 3.ann f sign x", None), ("put 3.ann f leaf 1", None),
        ])

    def test_places_that_are_no_positions_of_this_holder(self):
        for place in ("1", "2", "3", "4", "5", "7", "8", "9", "10", "12", "13", "14", "15"):
            self.words([(f"put 2.ann {place}.ann leaf 1", None), (f"move 4.ann 2.ann {place}.ann", None)])
        for place in ("1", "2", "3", "4", "6", "7", "8", "9", "10", "11", "12", "13", "14", "15"):
            self.words([(f"put 3.ann {place}.ann sign x", None), (f"move 5.ann 3.ann {place}.ann", None)])

    def test_parents_that_are_no_holders(self):
        for parent in ("4", "5", "6", "8", "9", "10", "11"):
            for place in ("0.", "f", "6.ann", "5.ann"):
                self.words([
                    (f"put {parent}.ann {place} leaf 1", None), (f"put {parent}.ann {place} sign x", None),
                    (f"move 12.ann {parent}.ann {place}", None), (f"move 5.ann {parent}.ann {place}", None),
                ])

    def test_moves(self):
        for thing in ("1", "2", "3", "4", "6", "7", "12"):
            self.words([
                (f"move {thing}.ann 0. f", STANDS), (f"move {thing}.ann 1.ann f", STANDS), (f"move {thing}.ann 2.ann 0.", STANDS),
                (f"move {thing}.ann 2.ann 6.ann", STANDS), (f"move {thing}.ann 12.ann 13.ann", STANDS),
                (f"move {thing}.ann 3.ann 0.", None), (f"move {thing}.ann 3.ann 5.ann", None), (f"move {thing}.ann 2.ann f", None),
                (f"move {thing}.ann 0. 0.", None), (f"move {thing}.ann 1.ann 0.", None), (f"move {thing}.ann 1.ann 7.ann", None),
                (f"move {thing}.ann 0. 7.ann", None), (f"move {thing}.ann 4.ann f", None),
            ])

    def test_moves_of_signs(self):
        self.words([
            ("move 5.ann 3.ann 0.", STANDS), ("move 5.ann 3.ann 5.ann", STANDS), ("move 5.ann 14.ann 0.", STANDS),
            ("move 5.ann 14.ann 15.ann", STANDS), ("move 5.ann 14.ann 5.ann", None), ("move 5.ann 0. f", None),
            ("move 5.ann 1.ann f", None), ("move 5.ann 2.ann 0.", None), ("move 5.ann 2.ann 6.ann", None), ("move 5.ann 3.ann f", None),
        ])

    def test_moves_and_takes_of_what_is_no_put(self):
        for thing in ("8", "9", "10", "11"):
            self.words([
                (f"move {thing}.ann 0. f", None), (f"move {thing}.ann 1.ann f", None), (f"move {thing}.ann 2.ann 0.", None),
                (f"move {thing}.ann 3.ann 0.", None), (f"take {thing}.ann", None),
            ])

    def test_takes(self):
        self.words([(f"take {thing}.ann", STANDS) for thing in (1, 2, 3, 4, 5, 6, 7, 12, 13, 14, 15)])

    def test_undos_of_all_but_a_seen(self):
        self.words([(f"undo {count}.ann", None if count == 8 else STANDS) for count in range(1, 16)])

    def test_a_seen_fits_always(self):
        self.words([("seen 0", STANDS), ("seen 5", STANDS), ("seen 19", STANDS)])

    def test_a_position_by_a_move(self):
        scene = [*SCENE, *read("16.cy 0 move 5.ann 14.ann 15.ann", "17.cy 16 move 13.ann 2.ann 11.ann")]
        self.words([
            ("put 14.ann 16.cy sign z", STANDS), ("put 3.ann 16.cy sign z", None), ("put 2.ann 17.cy leaf 1", STANDS),
            ("put 12.ann 17.cy leaf 1", None), ("put 12.ann 13.ann leaf 1", STANDS), ("put 3.ann 5.ann sign z", STANDS),
        ], scene=scene)

    def test_undone_skipped_and_taken_have_no_bearing(self):
        scene = [*SCENE, *read(
            "16.cy 0 undo 6.ann", "17.cy 16 undo 2.ann", "18.cy 17 move 1.ann 1.ann f", "19.cy 18 take 4.ann", "19.dan 0 undo 11.ann",
        )]
        self.words([
            ("put 2.ann 6.ann leaf 1", STANDS), ("put 2.ann 11.ann leaf 1", STANDS), ("move 4.ann 2.ann 0.", STANDS), ("take 4.ann", STANDS),
            ("take 6.ann", STANDS), ("undo 6.ann", STANDS), ("undo 18.cy", STANDS), ("undo 16.cy", STANDS),
        ], scene=scene)


class Lacks(Standing):
    def test_no_deeds(self):
        self.told([], "", [])

    def test_the_before_first_then_the_names_in_the_words_order(self):
        for deed, lacking in (
            ("20.bob 7 put 16.cy 17.cy leaf 1", "7.bob"), ("20.bob 0 put 16.cy 17.cy leaf 1", "16.cy"),
            ("20.bob 0 put 17.cy 16.cy leaf 1", "17.cy"), ("20.bob 0 put 2.ann 17.cy leaf 1", "17.cy"),
            ("20.bob 7 put 2.ann 0. leaf 1", "7.bob"), ("20.bob 0 put 16.cy 0. leaf 1", "16.cy"), ("20.bob 0 put 16.cy f leaf 1", "16.cy"),
            ("20.bob 0 put 0. 16.cy leaf 1", "16.cy"), ("20.bob 0 put 1.ann 16.cy leaf 1", "16.cy"),
            ("20.bob 0 put 4.ann 16.cy leaf 1", "16.cy"), ("20.bob 0 put 2.ann 16.cy sign x", "16.cy"),
            ("20.bob 7 move 16.cy 17.cy 18.cy", "7.bob"), ("20.bob 0 move 16.cy 17.cy 18.cy", "16.cy"),
            ("20.bob 0 move 18.cy 17.cy 16.cy", "18.cy"), ("20.bob 0 move 4.ann 18.cy 17.cy", "18.cy"),
            ("20.bob 0 move 4.ann 2.ann 17.cy", "17.cy"), ("20.bob 0 move 4.ann 0. 17.cy", "17.cy"), ("20.bob 0 move 16.cy 0. f", "16.cy"),
            ("20.bob 0 move 8.ann 2.ann 17.cy", "17.cy"), ("20.bob 0 move 16.cy 4.ann f", "16.cy"),
            ("20.bob 7 take 16.cy", "7.bob"), ("20.bob 0 take 16.cy", "16.cy"), ("20.bob 7 take 8.ann", "7.bob"),
            ("20.bob 7 undo 16.cy", "7.bob"), ("20.bob 0 undo 16.cy", "16.cy"), ("20.bob 7 undo 8.ann", "7.bob"),
            ("20.bob 7 seen 0", "7.bob"), ("20.bob 19 seen 19", "19.bob"), ("20.bob 7 put 0. f sign x", "7.bob"),
            ("20.ann 15 seen 0", STANDS), ("20.ann 16 seen 0", "16.ann"), ("20.bob 15 seen 0", "15.bob"),
        ):
            self.lacks(SCENE, deed, lacking)

    def test_what_waits_is_lacked_too(self):
        scene = read("1.ann 0 put 0. a list", "3.ann 2 put 1.ann 0. leaf 3", "4.bob 0 put 0. a sign x")
        self.told(scene, "1.ann", [("3.ann", "2.ann"), ("4.bob", None)])
        for deed, lacking in (
            ("5.cy 0 put 1.ann 3.ann leaf 5", "3.ann"), ("5.cy 0 take 3.ann", "3.ann"), ("5.cy 0 move 3.ann 1.ann 0.", "3.ann"),
            ("5.cy 0 undo 4.bob", "4.bob"), ("5.bob 4 seen 0", "4.bob"), ("5.cy 0 put 4.bob f leaf 5", "4.bob"), ("5.ann 3 seen 0", "3.ann"),
        ):
            self.lacks(scene, deed, lacking)

    def test_a_chain_with_a_deed_left_out(self):
        chain = row_of("ann", [("seen", 0)] * 6)
        self.told(chain, "1.ann 2.ann 3.ann 4.ann 5.ann 6.ann", [])
        left = [deed for deed in chain if deed[0] != (3, "ann")]
        self.told(left, "1.ann 2.ann", [("4.ann", "3.ann"), ("5.ann", "4.ann"), ("6.ann", "5.ann")])
        self.told(chain[1:], "", [("2.ann", "1.ann"), ("3.ann", "2.ann"), ("4.ann", "3.ann"), ("5.ann", "4.ann"), ("6.ann", "5.ann")])

    def test_a_before_that_is_not_the_makers_last(self):
        deeds = read("1.ann 0 seen 0", "2.ann 1 seen 0", "3.ann 1 seen 0", "4.ann 0 seen 0", "5.ann 3 seen 0", "7.ann 6 seen 0")
        self.told(deeds, "1.ann 2.ann 3.ann 4.ann 5.ann", [("7.ann", "6.ann")])

    def test_a_before_of_another_maker(self):
        self.told(read("1.ann 0 seen 0", "2.bob 1 seen 0"), "1.ann", [("2.bob", "1.bob")])
        self.told(read("1.ann 0 seen 0", "1.bob 0 seen 0", "2.bob 1 seen 0"), "1.ann 1.bob 2.bob", [])

    def test_makers_with_like_counts(self):
        deeds = read(
            "1.ann 0 put 0. a list", "1.bob 0 put 1.ann 0. leaf 1", "1.cy 0 put 1.ann 1.bob leaf 2", "2.ann 1 take 1.bob", "2.bob 1 undo 2.ann",
            "2.cy 1 undo 2.bob",
        )
        self.told(deeds, "1.ann 1.bob 1.cy 2.ann 2.bob 2.cy", [])
        self.told(deeds[1:], "", [
            ("1.bob", "1.ann"), ("1.cy", "1.ann"), ("2.ann", "1.ann"), ("2.bob", "1.bob"), ("2.cy", "1.cy"),
        ])

    def test_several_makers_in_several_orders(self):
        deeds = read(
            "1.ann 0 put 0. a text", "2.bob 0 put 1.ann 0. sign x", "3.cy 0 put 1.ann 2.bob sign y", "4.ann 1 move 3.cy 1.ann 0.",
            "5.bob 2 take 3.cy", "6.cy 3 undo 5.bob", "7.dan 6 seen 0", "8.eve 0 undo 7.dan", "9.eve 8 seen 1", "10.cy 6 put 1.ann 6.cy sign z",
        )
        self.told(deeds, "1.ann 2.bob 3.cy 4.ann 5.bob 6.cy", [
            ("7.dan", "6.dan"), ("8.eve", "7.dan"), ("9.eve", "8.eve"), ("10.cy", None),
        ])

    def test_rising_is_by_counts_first(self):
        self.told(read("10.ann 0 seen 0", "9.bob 0 seen 0", "100.a 0 seen 0", "9.a 0 seen 0"), "9.a 9.bob 10.ann 100.a", [])

    def test_a_hundred_and_twenty_in_one_chain_handed_in_falling(self):
        chain = row_of("ann", [("put", ROOT, "a", ("list",))] + [("put", (at, "ann"), ROOT, ("list",)) for at in range(1, 120)])
        falling = list(reversed(chain))
        self.assertEqual(standing(falling), chain)
        self.assertEqual(waiting(falling), [])
        self.assertEqual(table(falling), {"ann": 120})
        self.assertEqual(standing(falling[:-1]), [])
        self.assertEqual(waiting(falling[:-1]), [((at, "ann"), (at - 1, "ann")) for at in range(2, 121)])
        undos = row_of("bob", [("put", ROOT, "a", ("list",))] + [("undo", (at, "bob")) for at in range(1, 120)])
        self.assertEqual(standing(list(reversed(undos))), undos)


class Tables(unittest.TestCase):
    def test_tables(self):
        self.assertEqual(table([]), {})
        self.assertEqual(table(SCENE), {"ann": 15})
        deeds = read("1.ann 0 seen 0", "4.bob 0 seen 0", "3.ann 1 seen 0", "2.cy 0 seen 0", "9.ann 8 seen 0", "5.dan 4 seen 0", "7.cy 0 take 2.cy")
        for handed in orders(deeds):
            self.assertEqual(table(handed), {"ann": 3, "bob": 4, "cy": 2})
            self.assertIs(type(table(handed)), dict)

    def test_the_greatest_and_not_the_last_said(self):
        deeds = read("9.ann 0 seen 0", "10.ann 0 seen 0", "2.ann 0 seen 0")
        for handed in orders(deeds):
            self.assertEqual(table(handed), {"ann": 10})

    def test_heads_in_the_table(self):
        self.assertEqual(table([], ground=GROUND), {"ann": 9, "bob": 10})
        for deed, told in (
            ("11.ann 9 seen 0", {"ann": 11, "bob": 10}), ("11.ann 8 seen 0", {"ann": 9, "bob": 10}),
            ("11.cy 0 seen 0", {"ann": 9, "bob": 10, "cy": 11}), ("11.cy 10 seen 0", {"ann": 9, "bob": 10}),
        ):
            self.assertEqual(table(read(deed), ground=GROUND), told)
        elder = (10, ((9, "ann"), (7, "ann")), (), ())
        self.assertEqual(table([], ground=elder), {"ann": 9})


class Beside(Standing):
    def beside(self, rows):
        self.words(rows, ground=GROUND, scene=[])

    def test_the_ground_is_the_one_of_these_deeds(self):
        self.assertEqual(Model(BELOW + ABOVE).ground(10), GROUND)
        self.told(ABOVE, "11.ann 12.bob 13.ann 14.cy", [], GROUND)

    def test_heads_as_befores(self):
        for deed, lacking in (
            ("20.ann 9 seen 0", STANDS), ("20.ann 7 seen 0", STANDS), ("20.bob 10 seen 0", STANDS), ("20.ann 8 seen 0", "8.ann"),
            ("20.ann 10 seen 0", "10.ann"), ("20.ann 1 seen 0", "1.ann"), ("20.bob 9 seen 0", "9.bob"), ("20.bob 7 seen 0", "7.bob"),
            ("20.cy 10 seen 0", "10.cy"), ("20.ann 11 seen 0", "11.ann"), ("20.ann 0 seen 0", STANDS), ("20.bob 8 seen 0", "8.bob"),
        ):
            self.lacks([], deed, lacking, GROUND)

    def test_heads_are_nothing_else(self):
        for head in ("9.ann", "10.bob"):
            self.beside([
                (f"take {head}", head), (f"move {head} 0. f", head), (f"put {head} f leaf 1", head), (f"put {head} 0. leaf 1", head),
                (f"undo {head}", head), (f"put 2.ann {head} leaf 1", head), (f"move 5.ann {head} f", head),
            ])

    def test_things_as_things_and_as_parents(self):
        self.beside([
            ("take 1.ann", STANDS), ("take 5.ann", STANDS), ("take 6.ann", STANDS), ("take 4.bob", STANDS), ("take 6.bob", STANDS),
            ("move 5.ann 0. f", STANDS), ("move 5.ann 1.ann f", STANDS), ("move 5.ann 2.ann 0.", STANDS), ("move 4.bob 0. f", STANDS),
            ("move 6.ann 3.bob 0.", STANDS), ("put 1.ann f leaf 1", STANDS), ("put 2.ann 0. object", STANDS), ("put 3.bob 0. sign y", STANDS),
            ("put 4.bob 0. leaf 1", STANDS), ("put 6.bob f leaf 1", STANDS),
        ])

    def test_things_as_what_they_are(self):
        self.beside([
            ("put 5.ann f leaf 1", None), ("put 6.ann 0. sign x", None), ("put 1.ann 0. leaf 1", None), ("put 1.ann f sign x", None),
            ("put 2.ann 0. sign x", None), ("put 2.ann f leaf 1", None), ("put 3.bob 0. leaf 1", None), ("move 6.ann 0. f", None),
            ("move 6.ann 2.ann 0.", None), ("move 5.ann 3.bob 0.", None), ("move 5.ann 8.bob f", None),
        ])

    def test_things_are_no_deeds_that_are_undone_and_no_befores(self):
        for thing in ("1.ann", "4.bob", "5.ann", "7.ann", "8.bob"):
            self.beside([(f"undo {thing}", thing)])
        for deed, lacking in (("20.ann 5 seen 0", "5.ann"), ("20.bob 8 undo 5.ann", "8.bob"), ("20.bob 0 undo 5.ann", "5.ann")):
            self.lacks([], deed, lacking, GROUND)

    def test_positions_as_places_in_their_own_holder(self):
        self.beside([
            ("put 2.ann 7.ann leaf 1", STANDS), ("put 2.ann 5.ann leaf 1", STANDS), ("put 2.ann 8.bob leaf 1", STANDS),
            ("move 8.bob 2.ann 7.ann", STANDS), ("put 3.bob 6.ann sign y", STANDS), ("move 6.ann 3.bob 6.ann", STANDS),
            ("put 2.ann 6.ann leaf 1", "6.ann"), ("put 3.bob 7.ann sign y", "7.ann"), ("put 4.bob 7.ann leaf 1", "7.ann"),
            ("move 5.ann 4.bob 8.bob", "8.bob"), ("put 3.bob 5.ann sign y", "5.ann"), ("put 2.ann 7.ann sign x", None),
        ])

    def test_places_that_are_none_of_them(self):
        self.beside([
            ("put 2.ann 1.ann leaf 1", "1.ann"), ("put 2.ann 2.ann leaf 1", "2.ann"), ("put 2.ann 9.ann leaf 1", "9.ann"),
            ("put 2.ann 10.cy leaf 1", "10.cy"), ("put 0. 7.ann leaf 1", "7.ann"), ("put 0. 1.ann leaf 1", "1.ann"),
            ("put 1.ann 7.ann leaf 1", "7.ann"), ("put 1.ann 6.bob leaf 1", "6.bob"), ("put 6.bob 9.ann leaf 1", "9.ann"),
            ("move 5.ann 0. 7.ann", "7.ann"), ("move 5.ann 1.ann 7.ann", "7.ann"), ("put 5.ann 7.ann leaf 1", "7.ann"),
            ("put 3.bob 10.cy leaf 1", "10.cy"),
        ])

    def test_positions_are_no_things(self):
        self.beside([("take 7.ann", "7.ann"), ("move 7.ann 0. f", "7.ann"), ("put 7.ann f leaf 1", "7.ann")])

    def test_what_is_lacked_first(self):
        self.beside([
            ("put 9.ann 10.cy leaf 1", "9.ann"), ("move 9.ann 10.cy 1.cy", "9.ann"), ("move 5.ann 10.cy 1.cy", "10.cy"),
            ("move 5.ann 2.ann 1.cy", "1.cy"), ("put 11.cy 7.ann leaf 1", "11.cy"), ("move 1.cy 0. 7.ann", "1.cy"),
        ])
        self.lacks([], "20.ann 8 move 9.ann 10.cy 1.cy", "8.ann", GROUND)

    def test_other_stamps_up_to_upto_stand_as_nothing(self):
        self.beside([("take 1.cy", "1.cy"), ("put 10.cy f leaf 1", "10.cy"), ("undo 3.cy", "3.cy"), ("move 1.bob 0. f", "1.bob")])

    def test_later_deeds_beside_it(self):
        scene = read(
            "11.cy 0 put 2.ann 7.ann leaf 11", "12.cy 11 put 2.ann 11.cy list", "13.cy 12 put 12.cy 0. leaf 13", "14.cy 13 move 5.ann 12.cy 13.cy",
            "15.cy 14 undo 14.cy", "16.cy 15 put 3.bob 6.ann sign z", "17.cy 16 seen 10",
        )
        self.told(scene, "11.cy 12.cy 13.cy 14.cy 15.cy 16.cy 17.cy", [], GROUND)
        self.words([
            ("put 2.ann 12.cy leaf 1", STANDS), ("put 12.cy 14.cy leaf 1", STANDS), ("put 12.cy 7.ann leaf 1", "7.ann"),
            ("put 12.cy 11.cy leaf 1", None), ("put 2.ann 13.cy leaf 1", None), ("put 3.bob 16.cy sign y", STANDS), ("undo 17.cy", None),
            ("undo 11.cy", STANDS), ("take 14.cy", None), ("take 12.cy", STANDS), ("put 0. 11.cy leaf 1", None),
        ], GROUND, scene)

    def test_bare_is_as_none(self):
        self.assertEqual(repr(BARE), "(0, (), (), ())")
        for seed in range(10):
            deeds = drawn(seed)
            self.assertEqual(standing(deeds, ground=BARE), standing(deeds))
            self.assertEqual(waiting(deeds, ground=(0, (), (), ())), waiting(deeds))
            self.assertEqual(table(deeds, ground=BARE), table(deeds))


class Drawn(unittest.TestCase):
    """Point 4, of sets that were drawn by lot."""

    def test_as_the_document_says(self):
        for seed in range(60):
            deeds = drawn(seed)
            model = Model(deeds)
            for handed in orders(deeds, 2):
                self.assertEqual(written(standing(handed)), written(model.standing()))
                self.assertEqual(waiting(handed), model.waiting())
                self.assertEqual(table(handed), model.table())

    def test_a_deed_that_stands_does_so_whatever_else_is_heard(self):
        for seed in range(30):
            deeds = drawn(seed)
            for many in range(0, len(deeds), 3):
                few = [deed[0] for deed in standing(deeds[:many])]
                self.assertLessEqual(set(few), {deed[0] for deed in standing(deeds)})

    def test_beside_grounds(self):
        for seed in range(25):
            deeds = drawn(seed)
            model = Model(deeds)
            for upto in range(1, max(deed[0][0] for deed in deeds) + 1):
                if model.is_clean(upto):
                    ground = model.ground(upto)
                    above = [deed for deed in deeds if deed[0][0] > upto]
                    stood = [deed for deed in model.standing() if deed[0][0] > upto]
                    self.assertEqual(standing(above, ground=ground), stood)
                    self.assertEqual(waiting(above, ground=ground), Model(above, ground).waiting())
                    self.assertEqual(table(above, ground=ground), model.table())


class Handing(unittest.TestCase):
    def test_what_is_handed_in_stays(self):
        for deeds, ground in ((drawn(3), BARE), (list(reversed(ABOVE)), GROUND)):
            kept = list(deeds)
            ahead = repr((deeds, ground))
            for ask in (standing, waiting, table):
                ask(deeds, ground=ground)
                self.assertEqual(repr((deeds, ground)), ahead)
                self.assertEqual(deeds, kept)

    def test_told_lists_and_dicts_are_the_askers_own(self):
        for deeds, ground in ((drawn(3), BARE), ([], BARE), (ABOVE, GROUND), ([], GROUND)):
            for ask in (standing, waiting):
                told = ask(deeds, ground=ground)
                written_ahead = repr(told)
                told.append("more")
                told.reverse()
                self.assertEqual(repr(ask(deeds, ground=ground)), written_ahead)
                told.clear()
                self.assertEqual(repr(ask(deeds, ground=ground)), written_ahead)
                self.assertIsNot(ask(deeds, ground=ground), deeds)
            told = table(deeds, ground=ground)
            ahead = dict(told)
            told["more"] = 1
            told["ann"] = 0
            self.assertEqual(table(deeds, ground=ground), ahead)

    def test_a_list_changed_behind_the_call_has_no_bearing(self):
        deeds = list(SCENE)
        told = standing(deeds)
        deeds.clear()
        self.assertEqual(told, SCENE)
        told.clear()
        self.assertEqual(standing(SCENE), SCENE)

    def test_kinds(self):
        self.assertEqual({type(deed) for deed in standing(SCENE)}, {tuple})
        self.assertEqual({type(row) for row in waiting(read("2.ann 1 seen 0"))}, {tuple})

    def test_arguments_by_their_names(self):
        for ask in (standing, waiting, table):
            self.assertEqual(ask(deeds=SCENE), ask(SCENE))
            self.assertEqual(ask(ground=GROUND, deeds=ABOVE), ask(ABOVE, ground=GROUND))
            with self.assertRaises(TypeError):
                ask(ABOVE, GROUND)

    def test_the_interface(self):
        for name in ("standing", "waiting", "table"):
            told = getattr(module, name)
            self.assertEqual(told.__module__, "heardalike.standing")
            self.assertEqual(str(inspect.signature(told)), "(deeds, *, ground=(0, (), (), ()))")


if __name__ == "__main__":
    unittest.main()
