"""Points 13 and 14, and of 4 what it says of what counts."""

import inspect
import unittest

from heardalike import undoing
from heardalike.places import lies, skipped
from heardalike.stamps import ROOT
from heardalike.standing import BARE
from heardalike.undoing import counting, undone
from tests.grounds import ABOVE, GROUND
from tests.model import Model
from tests.sets import drawn, orders, read, row_of, stamp, stamps


class Undoing(unittest.TestCase):
    def told(self, deeds, counts, undos, ground=BARE):
        """In whatever order they are handed in these count, and these are undone by these."""
        for handed in orders(deeds):
            self.assertEqual(counting(handed, ground=ground), stamps(counts))
            self.assertEqual(undone(handed, ground=ground), [(stamp(one), stamp(other)) for one, other in undos])


class Undos(Undoing):
    def test_no_deeds_and_no_undos(self):
        self.told([], "", [])
        self.told(read("1.ann 0 put 0. a list", "2.bob 0 move 1.ann 0. b", "3.bob 2 take 1.ann", "4.ann 1 seen 2"), "1.ann 2.bob 3.bob 4.ann", [])

    def test_an_undo_of_each_word(self):
        deeds = read(
            "1.ann 0 put 0. a list", "2.ann 1 put 0. b list", "3.ann 2 move 1.ann 2.ann 0.", "4.ann 3 take 1.ann", "5.ann 4 seen 4",
            "6.bob 0 undo 1.ann", "7.bob 6 undo 3.ann", "8.bob 7 undo 4.ann",
        )
        self.told(deeds, "2.ann 5.ann 6.bob 7.bob 8.bob", [("1.ann", "6.bob"), ("3.ann", "7.bob"), ("4.ann", "8.bob")])

    def test_an_undo_undoes_just_its_deed(self):
        deeds = read("1.ann 0 put 0. a list", "2.ann 1 put 1.ann 0. leaf 2", "3.ann 2 put 1.ann 2.ann leaf 3", "4.bob 0 undo 2.ann")
        self.told(deeds, "1.ann 3.ann 4.bob", [("2.ann", "4.bob")])

    def test_two_undos_of_one_deed(self):
        deeds = read("1.ann 0 put 0. a list", "2.bob 0 undo 1.ann", "3.cy 0 undo 1.ann")
        self.told(deeds, "2.bob 3.cy", [("1.ann", "3.cy")])
        self.told([*deeds, *read("4.ann 1 undo 2.bob")], "3.cy 4.ann", [("1.ann", "3.cy"), ("2.bob", "4.ann")])
        self.told([*deeds, *read("4.ann 1 undo 3.cy")], "2.bob 4.ann", [("1.ann", "2.bob"), ("3.cy", "4.ann")])
        self.told(
            [*deeds, *read("4.ann 1 undo 3.cy", "5.bob 2 undo 2.bob")], "1.ann 4.ann 5.bob", [("2.bob", "5.bob"), ("3.cy", "4.ann")],
        )

    def test_two_undos_with_like_counts(self):
        deeds = read("1.ann 0 put 0. a list", "2.ann 1 undo 1.ann", "2.bob 0 undo 1.ann", "2.cy 0 undo 2.bob")
        self.told(deeds[:3], "2.ann 2.bob", [("1.ann", "2.bob")])
        self.told(deeds, "2.ann 2.cy", [("1.ann", "2.ann"), ("2.bob", "2.cy")])

    def test_an_undo_of_an_undo(self):
        deeds = read("1.ann 0 put 0. a list", "2.bob 0 undo 1.ann", "3.ann 1 undo 2.bob", "4.bob 2 undo 3.ann")
        self.told(deeds[:2], "2.bob", [("1.ann", "2.bob")])
        self.told(deeds[:3], "1.ann 3.ann", [("2.bob", "3.ann")])
        self.told(deeds, "2.bob 4.bob", [("1.ann", "2.bob"), ("3.ann", "4.bob")])

    def test_an_undone_undo_that_is_named_by_another(self):
        deeds = read(
            "1.ann 0 put 0. a list", "2.ann 1 undo 1.ann", "3.ann 2 undo 2.ann", "4.bob 0 undo 2.ann", "5.cy 0 undo 3.ann", "6.dan 0 undo 5.cy",
        )
        self.told(deeds[:5], "1.ann 4.bob 5.cy", [("2.ann", "4.bob"), ("3.ann", "5.cy")])
        self.told(deeds, "1.ann 3.ann 4.bob 6.dan", [("2.ann", "4.bob"), ("5.cy", "6.dan")])
        self.told([*deeds[:3], *deeds[4:5]], "2.ann 5.cy", [("1.ann", "2.ann"), ("3.ann", "5.cy")])

    def test_a_chain_of_undos(self):
        for many in (100, 101, 120):
            chain = row_of("ann", [("put", ROOT, "a", ("list",))] + [("undo", (at, "ann")) for at in range(1, many)])
            counts = [(at, "ann") for at in range(1, many + 1) if (many - at) % 2 == 0]
            undos = [((at, "ann"), (at + 1, "ann")) for at in range(1, many + 1) if (many - at) % 2]
            for handed in orders(chain, 1):
                self.assertEqual(counting(handed), counts)
                self.assertEqual(undone(handed), undos)

    def test_a_hundred_undos_of_one_deed(self):
        deeds = row_of("ann", [("put", ROOT, "a", ("list",))] + [("undo", (1, "ann"))] * 119)
        self.assertEqual(counting(deeds), [(at, "ann") for at in range(2, 121)])
        self.assertEqual(undone(deeds), [((1, "ann"), (120, "ann"))])

    def test_waiting_deeds_neither_count_nor_undo(self):
        deeds = read("1.ann 0 put 0. a list", "3.bob 2 undo 1.ann", "4.cy 0 undo 3.bob", "5.dan 0 put 0. a sign x", "6.eve 0 undo 5.dan", "7.fay 0 undo 6.zoe")
        self.told(deeds, "1.ann", [])
        self.told([*deeds, *read("2.bob 0 seen 0")], "1.ann 2.bob 4.cy", [("3.bob", "4.cy")])
        self.told(read("1.ann 0 seen 0", "2.ann 1 undo 1.ann"), "1.ann", [])

    def test_an_undone_deed_still_stands_for_others(self):
        deeds = read("1.ann 0 put 0. a list", "2.ann 1 undo 1.ann", "3.ann 2 put 1.ann 0. leaf 1", "4.ann 3 take 3.ann", "5.bob 0 undo 3.ann")
        self.told(deeds, "2.ann 4.ann 5.bob", [("1.ann", "2.ann"), ("3.ann", "5.bob")])


class Beside(Undoing):
    def test_of_the_sets_own_deeds_alone(self):
        self.told([], "", [], GROUND)
        self.told(ABOVE, "11.ann 12.bob 13.ann 14.cy", [], GROUND)
        more = [*ABOVE, *read("15.cy 14 undo 13.ann", "16.cy 15 undo 5.ann", "17.dan 0 undo 4.bob", "18.dan 0 undo 15.cy", "19.eve 0 undo 13.ann")]
        self.told(more, "11.ann 12.bob 14.cy 18.dan 19.eve", [("13.ann", "19.eve"), ("15.cy", "18.dan")], GROUND)


class AsIfItDidNothing(unittest.TestCase):
    def test_a_deed_and_its_undo_more(self):
        """Point 14, by how things lie and which moves are skipped."""
        tried = 0
        for seed in range(60):
            deeds = drawn(seed)
            model = Model(deeds)
            things = [thing for thing in model.all_things() if model.what(thing)[0] in ("object", "leaf")]
            last = max(deed[0][0] for deed in deeds)
            for at in things[:4]:
                for words in (("put", ROOT, "a", ("object",)), ("move", at, ROOT, "b"), ("take", at), ("undo", at)):
                    for count in (at[0] + 1, last + 1):
                        more = [((count, "zoe"), 0, words), ((last + 2, "zoe"), count, ("undo", (count, "zoe")))]
                        self.assertEqual(lies(deeds + more), lies(deeds))
                        self.assertEqual(skipped(deeds + more), skipped(deeds))
                        again = [*more, ((last + 3, "zoe"), last + 2, ("undo", (last + 2, "zoe")))]
                        self.assertEqual(lies(deeds + again), lies(deeds + more[:1]))
                        self.assertEqual(skipped(deeds + again), skipped(deeds + more[:1]))
                        tried += 1
        self.assertGreater(tried, 500)


class Drawn(unittest.TestCase):
    def test_as_the_document_says(self):
        for seed in range(60):
            deeds = drawn(seed)
            model = Model(deeds)
            for handed in orders(deeds, 2):
                self.assertEqual(counting(handed), model.counting())
                self.assertEqual(undone(handed), model.undone())

    def test_beside_grounds(self):
        for seed in range(25):
            deeds = drawn(seed)
            model = Model(deeds)
            for upto in range(1, max(deed[0][0] for deed in deeds) + 1):
                if model.is_clean(upto):
                    ground = model.ground(upto)
                    above = [deed for deed in deeds if deed[0][0] > upto]
                    self.assertEqual(counting(above, ground=ground), [one for one in model.counting() if one[0] > upto])
                    self.assertEqual(undone(above, ground=ground), [row for row in model.undone() if row[0][0] > upto])


class Handing(unittest.TestCase):
    def test_what_is_handed_in_stays_and_the_same_is_told_again(self):
        for deeds, ground in ((drawn(3), BARE), (list(reversed(ABOVE)), GROUND), ([], BARE)):
            ahead = repr((deeds, ground))
            for ask in (counting, undone):
                told = ask(deeds, ground=ground)
                kept = list(told)
                told.append(1)
                told.reverse()
                self.assertEqual(ask(deeds, ground=ground), kept)
                told.clear()
                self.assertEqual(ask(deeds, ground=ground), kept)
                self.assertEqual(repr((deeds, ground)), ahead)

    def test_kinds(self):
        deeds = read("1.ann 0 put 0. a list", "2.bob 0 undo 1.ann")
        self.assertEqual([type(counting(deeds)), type(undone(deeds)), type(undone(deeds)[0])], [list, list, tuple])

    def test_arguments_by_their_names(self):
        for ask in (counting, undone):
            self.assertEqual(ask(ground=GROUND, deeds=ABOVE), ask(ABOVE, ground=GROUND))
            with self.assertRaises(TypeError):
                ask(ABOVE, GROUND)

    def test_the_interface(self):
        for name in ("counting", "undone"):
            told = getattr(undoing, name)
            self.assertEqual(told.__module__, "heardalike.undoing")
            self.assertEqual(str(inspect.signature(told)), "(deeds, *, ground=(0, (), (), ()))")


if __name__ == "__main__":
    unittest.main()
