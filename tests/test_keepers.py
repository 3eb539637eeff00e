"""Points 34 and 35, and of 4, 12 and 33 what they say of keepers."""

import inspect
import unittest

from heardalike import keepers
from heardalike.copies import Copy
from heardalike.deedtexts import deed_of
from heardalike.errors import HeardError
from heardalike.grounds import cleaned, ground_of, is_clean
from heardalike.keepers import Keeper
from heardalike.shows import shown
from heardalike.stamps import ROOT
from heardalike.standing import BARE
from tests.model import written
from tests.pairs import Calls, Pair, outcome
from tests.refusals import Refusing, all_told, kept, refusal
from tests.sets import orders, read, stamps
from tests.things import ANYTHING, HUGE, Sour, Sweet
from tests.values import spoil, strict

NAMES = ["bob", "ann"]
FIRST = read(
    "1.ann 0 put 0. l list", "2.ann 1 put 1.ann 0. leaf 2", "3.bob 0 put 1.ann 2.ann leaf 3", "4.ann 2 put 0. o object", "5.bob 3 take 2.ann", "6.ann 4 take 4.ann",
)
SEEN = read("7.ann 6 seen 5", "8.bob 5 seen 5")
# Of these for 5: 2.ann is taken, 4.ann is named by a later deed.
GROUND = (
    5, ((4, "ann"), (5, "bob")),
    (
        ((1, "ann"), ("list",), True, (ROOT, "l", (1, "ann"))), ((3, "bob"), ("leaf", 3), True, ((1, "ann"), "", (3, "bob"))),
        ((4, "ann"), ("object",), True, (ROOT, "o", (4, "ann"))),
    ),
    (((1, "ann"), ((3, "bob"),)),),
)


def keeper(*deeds, name="ann", among=NAMES):
    one = Keeper(name, among=among)
    for deed in deeds:
        one.hear(deed)
    return one


class Lines(unittest.TestCase):
    def test_no_deeds(self):
        one = keeper()
        self.assertEqual((one.line(), one.drop(), one.paper(), one.ground()), (0, 0, [], BARE))

    def test_the_least_of_what_all_told(self):
        one = keeper(*FIRST)
        self.assertEqual(one.line(), 0)
        for text, line in (("7.ann 6 seen 3", 0), ("8.bob 5 seen 2", 2), ("9.bob 8 seen 5", 3), ("10.ann 7 seen 4", 4), ("11.ann 10 seen 1", 4), ("12.ann 11 seen 9", 5)):
            one.hear(deed_of(text))
            self.assertEqual(one.line(), line)

    def test_waiting_ones_are_left_out(self):
        one = keeper(*FIRST, *SEEN[:1], *read("10.bob 9 seen 5"))
        self.assertEqual(one.line(), 0)
        one.hear(deed_of("9.bob 5 seen 1"))
        self.assertEqual(one.line(), 5)

    def test_one_who_told_none(self):
        one = keeper(*FIRST, *SEEN, among=["ann", "bob", "cy"])
        self.assertEqual(one.line(), 0)
        one.hear(deed_of("9.cy 0 seen 4"))
        self.assertEqual(one.line(), 4)

    def test_alone(self):
        one = keeper(among=["ann"])
        one.put([], ("leaf", 1), place="a")
        one.seen()
        self.assertEqual((one.line(), one.drop()), (1, 1))
        self.assertEqual(one.shown(), {"a": 1})


class Drops(Refusing):
    def test_its_ground_and_its_deeds(self):
        one = keeper(*FIRST, *SEEN)
        ahead = strict(one.shown())
        self.assertEqual(one.line(), 5)
        self.assertEqual(one.drop(), 5)
        self.assertEqual(repr(one.ground()), repr(GROUND))
        self.assertEqual(written(one.deeds()), ["6.ann 4 take 4.ann", "7.ann 6 seen 5", "8.bob 5 seen 5"])
        self.assertEqual(one.stands(), one.deeds())
        self.assertEqual(one.waits(), [])
        self.assertEqual(one.counts(), {"ann": 7, "bob": 8})
        self.assertEqual(strict(one.shown()), ahead)
        self.assertEqual((one.line(), one.told(), one.known()), (5, 5, 7))

    def test_in_whatever_order_they_were_heard(self):
        for handed in orders([*FIRST, *SEEN], 10):
            one = keeper(*handed)
            self.assertEqual(one.drop(), 5)
            self.assertEqual(repr(one.ground()), repr(GROUND))

    def test_twice(self):
        one = keeper(*FIRST, *SEEN)
        one.drop()
        ahead = all_told(one)
        for _ in range(3):
            self.assertEqual(one.drop(), 5)
            self.assertEqual(all_told(one), ahead)
        for text in ("9.ann 7 seen 7", "10.bob 8 seen 7"):
            one.hear(deed_of(text))
        self.assertEqual((one.line(), one.drop()), (7, 7))
        self.assertEqual(repr(one.ground()), repr(ground_of([*FIRST, *SEEN, *read("9.ann 7 seen 7", "10.bob 8 seen 7")], 7)))
        self.assertEqual([row[0] for row in one.ground()[2]], stamps("1.ann 3.bob"))
        self.assertEqual(written(one.deeds()), ["8.bob 5 seen 5", "9.ann 7 seen 7", "10.bob 8 seen 7"])
        self.assertEqual(one.shown(), {"l": [3]})

    def test_nothing_to_drop(self):
        one = keeper(*FIRST, *SEEN[:1])
        ahead = all_told(one)
        self.assertEqual(one.drop(), 0)
        self.assertEqual(all_told(one), ahead)
        one = keeper(*FIRST, *read("7.ann 6 seen 0", "8.bob 5 seen 0"))
        self.assertEqual((one.line(), one.drop(), one.paper(), one.ground()), (0, 0, [], BARE))

    def test_the_greatest_clean_number_up_to_its_line(self):
        deeds = [*FIRST, *read("7.bob 5 undo 4.ann", "8.ann 6 seen 5", "9.bob 7 seen 5")]
        one = keeper(*deeds)
        self.assertEqual((one.line(), one.drop()), (5, 3))
        self.assertEqual(repr(one.ground()), repr(ground_of(deeds, 3)))
        self.assertEqual(one.drop(), 3)
        self.assertEqual([deed[0] for deed in one.deeds()], stamps("4.ann 5.bob 6.ann 7.bob 8.ann 9.bob"))
        self.assertEqual(one.shown(), {"l": [3]})
        one.hear_all(read("10.ann 8 seen 9", "11.bob 9 seen 9"))
        self.assertEqual((one.line(), one.drop()), (9, 9))
        self.assertEqual(one.shown(), {"l": [3]})

    def test_none_is_clean(self):
        deeds = [*read("1.ann 0 put 0. a leaf 1", "5.bob 0 undo 1.ann", "6.ann 1 seen 4", "7.bob 5 seen 4")]
        one = keeper(*deeds)
        ahead = all_told(one)
        self.assertEqual((one.line(), one.drop()), (4, 0))
        self.assertEqual(all_told(one), ahead)
        self.assertEqual(one.paper(), [])

    def test_it_goes_on_beside_its_ground(self):
        one = keeper(*FIRST, *SEEN)
        one.drop()
        self.assertEqual(one.put(["l"], ("leaf", 9)), deed_of("9.ann 7 put 1.ann 3.bob leaf 9"))
        self.assertEqual(one.put(["l"], ("leaf", 8), place=0), deed_of("10.ann 9 put 1.ann 0. leaf 8"))
        self.assertEqual(one.shown(), {"l": [8, 3, 9]})
        self.assertEqual(one.move(["l", 1], [], place="x"), deed_of("11.ann 10 move 3.bob 0. x"))
        self.assertEqual(one.give([], "l", ("text",)), read("12.ann 11 take 1.ann", "13.ann 12 put 0. l text"))
        self.assertEqual(one.shown(), {"l": "", "x": 3})
        self.assertEqual(one.at(["x"]), 3)
        for _ in range(6):
            one.undo()
        self.assertEqual(strict(one.shown()), strict({"l": [3], "o": {}}))
        self.refused(one, "Nothing", {}, one.undo)
        for _ in range(6):
            one.again()
        self.assertEqual(one.shown(), {"l": "", "x": 3})

    def test_rings_through_things_of_the_ground(self):
        one = keeper(*read("1.ann 0 put 0. o object", "2.ann 1 put 1.ann l list", "3.ann 2 put 0. p object", "4.bob 0 seen 3", "5.ann 3 seen 3"))
        self.assertEqual(one.drop(), 3)
        self.refused(one, "Ring", {"thing": (1, "ann")}, one.move, ["o"], ["o", "l"])
        self.refused(one, "Ring", {"thing": (2, "ann")}, one.move, ["o", "l"], ["o", "l"], place=0)
        one.move(["p"], ["o", "l"])
        self.refused(one, "Ring", {"thing": (1, "ann")}, one.move, ["o"], ["o", "l", 0], place="x")
        self.assertEqual(one.shown(), {"o": {"l": [{}]}})

    def test_dropped_stamps_are_unknown(self):
        one = keeper(*FIRST, *SEEN)
        self.refused(one, "Settled", {"stamp": (3, "bob")}, one.undo, (3, "bob"))
        one.drop()
        for stamp in stamps("1.ann 2.ann 3.bob 4.ann 5.bob"):
            self.refused(one, "Unknown", {"stamp": stamp}, one.undo, stamp)
        self.refused(one, "Unknown", {"stamp": (7, "ann")}, one.undo, (7, "ann"))
        self.assertEqual(one.undo((6, "ann")), deed_of("9.ann 7 undo 6.ann"))
        self.assertEqual(strict(one.shown()), strict({"l": [3], "o": {}}))

    def test_what_was_dropped_heard_late(self):
        one = keeper(*FIRST, *SEEN)
        one.drop()
        ahead = all_told(one)
        for deed in [*FIRST, *SEEN, *read("3.ann 2 seen 0", "5.ann 4 put 0. q leaf 1")]:
            self.assertEqual(one.hear(deed), [])
            self.assertEqual(all_told(one), ahead)
        self.assertEqual(one.hear_all(FIRST), [])
        self.assertEqual(one.log(), [("in", 6), ("out", 6)])

    def test_another_deed_by_a_dropped_stamp(self):
        one = keeper(*FIRST, *SEEN)
        self.refused(one, "Forged", {"stamp": (1, "ann")}, one.hear, deed_of("1.ann 0 put 0. l text"))
        one.drop()
        ahead = all_told(one)
        for text in ("1.ann 0 put 0. l text", "5.bob 0 seen 0", "3.bob 0 take 1.ann"):
            self.assertEqual(one.hear(deed_of(text)), [])
        self.assertEqual(all_told(one), ahead)
        self.refused(one, "Forged", {"stamp": (6, "ann")}, one.hear, deed_of("6.ann 4 take 1.ann"))

    def test_refusals_go_ahead_of_what_was_dropped(self):
        one = keeper(*FIRST, *SEEN)
        one.drop()
        self.refused(one, "Stranger", {"who": "cy"}, one.hear, deed_of("1.cy 0 seen 0"))
        for thing in (*ANYTHING, ((1, "ann"), 1, ("seen", 0)), list(FIRST[0])):
            if refusal(Keeper("ann", among=NAMES).hear, thing) is not None:
                self.assertIsNotNone(refusal(one.hear, thing))
        self.refused(one, "NoDeed", {}, one.hear, ((1, "cy"), 1, ("seen", 0)))

    def test_waiting_deeds_stay_but_for_those_up_to_it(self):
        one = keeper(*FIRST, *SEEN, *read("12.bob 11 put 1.ann 3.bob leaf 12", "5.ann 3 seen 0"))
        self.assertEqual([stamp for stamp, _ in one.waits()], stamps("5.ann 12.bob"))
        one.drop()
        self.assertEqual(one.waits(), [((12, "bob"), (11, "bob"))])
        self.assertEqual(one.hear(deed_of("11.bob 8 seen 5")), stamps("11.bob 12.bob"))
        self.assertEqual(one.shown(), {"l": [3, 12]})
        self.assertEqual(one.put(["l"], ("leaf", 13))[0], (13, "ann"))

    def test_what_a_dropping_keeps_for_deeds_that_were_heard(self):
        deeds = [*FIRST, *read("7.bob 5 move 2.ann 1.ann 2.ann", "8.ann 6 seen 5", "9.bob 7 seen 6")]
        one = keeper(*deeds)
        self.assertEqual(one.shown(), {"l": [2, 3]})
        self.assertEqual(one.drop(), 5)
        self.assertEqual([row[0] for row in one.ground()[2]], stamps("1.ann 2.ann 3.bob 4.ann"))
        self.assertEqual(one.ground()[3], (((1, "ann"), tuple(stamps("2.ann 3.bob"))),))
        self.assertEqual(one.shown(), {"l": [2, 3]})


class Papers(unittest.TestCase):
    def test_ahead_of_a_dropping_and_behind(self):
        one = keeper(*FIRST, *SEEN)
        self.assertEqual(one.paper(), [])
        one.drop()
        self.assertEqual(one.paper(), [("ann", (7, "ann"), 5), ("bob", (8, "bob"), 5)])
        self.assertEqual([type(row) for row in one.paper()], [tuple, tuple])

    def test_the_greatest_upto_and_of_these_the_greatest_stamp(self):
        deeds = [*FIRST, *read("7.ann 6 seen 4", "8.ann 7 seen 5", "9.ann 8 seen 5", "10.ann 9 seen 2", "11.bob 5 seen 3", "12.bob 11 seen 6", "13.bob 12 seen 4")]
        one = keeper(*reversed(deeds))
        self.assertEqual(one.drop(), 5)
        self.assertEqual(one.paper(), [("ann", (9, "ann"), 5), ("bob", (12, "bob"), 6)])

    def test_as_they_were_at_the_last_dropping_that_raised_its_ground(self):
        one = keeper(*FIRST, *SEEN)
        one.drop()
        first = one.paper()
        one.hear_all(read("9.ann 7 seen 7"))
        self.assertEqual(one.paper(), first)
        self.assertEqual(one.drop(), 5)
        self.assertEqual(one.paper(), first)
        one.hear_all(read("10.bob 8 seen 6"))
        self.assertEqual(one.paper(), first)
        self.assertEqual(one.drop(), 6)
        self.assertEqual(one.paper(), [("ann", (9, "ann"), 7), ("bob", (10, "bob"), 6)])

    def test_of_many_names_rising(self):
        names = ["f", "b", "e", "a", "d", "c"]
        deeds = [((at + 1, name), 0, ("seen", 0)) for at, name in enumerate(names)]
        deeds += [((at + 10, name), at + 1, ("seen", at + 1)) for at, name in enumerate(names)]
        one = keeper(*deeds, name="e", among=names)
        self.assertEqual(one.drop(), 1)
        self.assertEqual(one.paper(), [("a", (13, "a"), 4), ("b", (11, "b"), 2), ("c", (15, "c"), 6), ("d", (14, "d"), 5), ("e", (12, "e"), 3), ("f", (10, "f"), 1)])

    def test_it_is_the_askers_own(self):
        one = keeper(*FIRST, *SEEN)
        one.paper().append(1)
        self.assertEqual(one.paper(), [])
        one.drop()
        told = one.paper()
        told.clear()
        self.assertEqual(one.paper(), [("ann", (7, "ann"), 5), ("bob", (8, "bob"), 5)])


class News(Refusing):
    def test_ahead_of_a_dropping(self):
        one = keeper(*FIRST, *SEEN)
        for counts in ({}, {"ann": 4}, {"ann": HUGE, "bob": 0}, {"zoe": 1}):
            self.assertEqual(one.news(counts), Copy.news(one, counts))
        self.assertEqual(len(one.news({})), 8)

    def test_behind_it(self):
        one = keeper(*FIRST, *SEEN)
        one.drop()
        self.assertEqual([head for head in one.ground()[1]], stamps("4.ann 5.bob"))
        self.assertEqual([deed[0] for deed in one.news({"ann": 4, "bob": 5})], stamps("6.ann 7.ann 8.bob"))
        self.assertEqual([deed[0] for deed in one.news({"ann": 6, "bob": 8, "cy": 0})], stamps("7.ann"))
        self.assertEqual(one.news({"ann": HUGE, "bob": HUGE}), [])
        for counts in (
            {}, {"ann": 4}, {"bob": 5}, {"ann": 3, "bob": 5}, {"ann": 4, "bob": 4}, {"ann": 99}, {"ann": 0, "bob": 0}, {"ann": -1, "bob": 9}, {"Ann": 9, "bob ": 9}, {None: 9, 4: "ann"},
            {"ann": True, "bob": 9}, {"ann": None, "bob": 9}, {"ann": "9", "bob": 9},
        ):
            ahead = repr(counts)
            self.refused(one, "Dropped", {"upto": 5}, one.news, counts)
            self.assertEqual(repr(counts), ahead)

    def test_each_head_is_asked(self):
        deeds = read("1.ann 0 seen 0", "2.ann 1 seen 0", "2.bob 0 seen 0", "4.ann 1 seen 2", "5.bob 2 seen 2")
        one = keeper(*deeds)
        self.assertEqual(one.drop(), 2)
        self.assertEqual(one.ground()[1], tuple(stamps("1.ann 2.ann 2.bob")))
        self.refused(one, "Dropped", {"upto": 2}, one.news, {"ann": 1, "bob": 2})
        self.refused(one, "Dropped", {"upto": 2}, one.news, {"ann": 2, "bob": 1})
        self.assertEqual(one.news({"ann": 2, "bob": 2}), deeds[3:])

    def test_a_name_without_a_head_is_not_asked(self):
        deeds = read("1.ann 0 put 0. a leaf 1", "3.bob 0 seen 2", "4.ann 1 seen 2")
        one = keeper(*deeds)
        self.assertEqual(one.drop(), 2)
        self.assertEqual(one.news({"ann": 1}), deeds[1:])
        self.refused(one, "Dropped", {"upto": 2}, one.news, {"bob": 9})

    def test_for_those_of_a_room_they_are_never_refused(self):
        one, other = keeper(*FIRST, *SEEN), keeper(*FIRST, *SEEN, name="bob")
        one.drop()
        other.put(["l"], ("leaf", 1))
        self.assertEqual(one.news(other.counts()), [])
        self.assertEqual(one.hear_all(other.news(one.counts())), [(9, "bob")])
        self.assertEqual(one.shown(), other.shown())


class Beside(unittest.TestCase):
    """Keepers beside copies that never drop, over calls drawn by lot."""

    def held(self, pair):
        """The keeper tells what the copy tells, but for what was dropped."""
        one, whole = pair.keeper, pair.copy
        upto = one.ground()[0]
        self.assertEqual(strict(one.shown()), strict(whole.shown()))
        self.assertEqual(strict(one.shown()), strict(shown(whole.deeds())))
        self.assertEqual(one.deeds(), [deed for deed in whole.deeds() if deed[0][0] > upto])
        self.assertEqual(one.stands(), [deed for deed in whole.stands() if deed[0][0] > upto])
        self.assertEqual(one.waits(), whole.waits())
        self.assertEqual((one.counts(), one.known(), one.told(), one.line()), (whole.counts(), whole.known(), whole.told(), pair.line()))

    def called(self, calls, pair):
        """Both are called likewise, and answer likewise."""
        made = [deed[0] for deed in pair.copy.stands()]
        word, places, names = calls.call(pair.copy, made)
        told = outcome(getattr(pair.copy, word), *places, **names)
        if word == "undo" and places[0] is not None and places[0][0] <= pair.keeper.ground()[0]:
            told = ("Unknown", {"stamp": places[0]})
        self.assertEqual(repr(outcome(getattr(pair.keeper, word), *places, **names)), repr(told))

    def dropped(self, pair):
        """The ground, its number, and the paper are those of all that was heard."""
        ahead, paper = pair.keeper.ground(), pair.keeper.paper()
        number = cleaned(pair.copy.deeds(), pair.line())
        told = pair.keeper.drop()
        self.assertEqual(told, max(number, ahead[0]))
        self.assertEqual(told, pair.keeper.ground()[0])
        self.assertTrue(is_clean(pair.copy.deeds(), told))
        if told > ahead[0]:
            self.assertEqual(repr(pair.keeper.ground()), repr(ground_of(pair.copy.deeds(), told)))
            self.assertEqual(pair.keeper.paper(), pair.paper())
            # What was dropped was known to all, by deeds of theirs that are told.
            for _, stamp, upto in pair.keeper.paper():
                self.assertGreaterEqual(upto, told)
                self.assertIn(stamp, [deed[0] for deed in pair.keeper.stands()])
            return True
        self.assertEqual((repr(pair.keeper.ground()), pair.keeper.paper()), (repr(ahead), paper))
        return False

    def handed(self, lot, one, other):
        """Some deeds of the one are heard by the other: its news, or any, late and twice."""
        news = one.copy.news(other.copy.counts())
        deeds = list(news)
        if lot.random() < 0.3:
            deeds = lot.sample(one.copy.deeds(), min(4, len(one.copy.deeds()))) + deeds[:lot.randrange(4)]
            lot.shuffle(deeds)
        else:
            self.assertEqual(one.keeper.news(other.keeper.counts()), news)
        if lot.random() < 0.5:
            for deed in deeds:
                self.assertEqual(other.keeper.hear(deed), other.copy.hear(deed))
        else:
            self.assertEqual(other.keeper.hear_all(deeds), other.copy.hear_all(deeds))

    def play(self, seed, names):
        calls = Calls(seed)
        pairs = [Pair(name, names) for name in names]
        drops = 0
        while len({deed[0] for pair in pairs for deed in pair.copy.deeds()}) < 45:
            pair, other = calls.any_of(*pairs), calls.any_of(*pairs)
            self.called(calls, pair)
            self.held(pair)
            if calls.lot.random() < 0.6:
                self.handed(calls.lot, pair, other)
                self.held(other)
            if calls.lot.random() < 0.3:
                drops += self.dropped(other)
                self.held(other)
        for one in pairs * 2:
            for other in pairs:
                other.keeper.hear_all(one.keeper.news(other.keeper.counts()))
        shows = [strict(pair.keeper.shown()) for pair in pairs]
        self.assertEqual(shows, shows[:1] * len(pairs))
        return drops

    def test_two(self):
        self.assertGreater(sum(self.play(seed, ["ann", "bob"]) for seed in range(14)), 40)

    def test_three(self):
        self.assertGreater(sum(self.play(seed, ["bob", "cy", "ann"]) for seed in range(100, 114)), 10)

    def test_one(self):
        self.assertGreater(sum(self.play(seed, ["zoe"]) for seed in range(200, 203)), 5)


class Apart(unittest.TestCase):
    def test_two_of_them(self):
        one, other = keeper(*FIRST, *SEEN), keeper(*FIRST, *SEEN, name="bob")
        ahead = all_told(other)
        one.drop()
        one.put(["l"], ("leaf", 1))
        self.assertEqual(all_told(other), ahead)
        ahead = all_told(one)
        other.drop()
        self.assertEqual(all_told(one), ahead)

    def test_told_lists_and_dicts_are_the_askers_own(self):
        one = keeper(*FIRST, *SEEN)
        one.drop()
        ahead = all_told(one)
        for ask in (one.among, one.log, one.deeds, one.stands, one.waits, one.paper, lambda: one.news({"ann": 5, "bob": 5})):
            told = ask()
            told.append(None)
            told.clear()
        one.counts().clear()
        spoil(one.shown())
        spoil(one.at(["l"]))
        self.assertEqual(all_told(one), ahead)
        self.assertEqual([all_told(one) for _ in range(2)], [ahead] * 2)

    def test_the_names_are_its_own(self):
        among = list(NAMES)
        one = Keeper("ann", among=among)
        among.append("cy")
        one.hear_all([*FIRST, *SEEN])
        self.assertEqual((one.line(), one.drop()), (5, 5))
        self.assertEqual([row[0] for row in one.paper()], ["ann", "bob"])

    def test_refused_ones_change_nothing(self):
        one = keeper(*FIRST, *SEEN)
        one.drop()
        for call in (lambda: one.news({}), lambda: one.undo((1, "ann")), lambda: one.put(["x"], None), lambda: one.hear(Sour()), lambda: one.hear(Sweet()), lambda: one.seen(upto=4)):
            ahead = kept(one)
            self.assertIsInstance(refusal(call), HeardError)
            self.assertEqual(kept(one), ahead)


class Interface(unittest.TestCase):
    def test_it_is_a_copy(self):
        self.assertTrue(issubclass(Keeper, Copy))
        self.assertEqual(Keeper.__module__, "heardalike.keepers")
        self.assertEqual(str(inspect.signature(keepers.Keeper)), "(name, *, among)")

    def test_methods_stand_in_the_class(self):
        for name, told in (("line", "(self)"), ("drop", "(self)"), ("paper", "(self)"), ("news", "(self, table)")):
            self.assertIn(name, vars(Keeper))
            self.assertEqual(str(inspect.signature(vars(Keeper)[name])), told)

    def test_a_copy_does_not_drop(self):
        for name in ("line", "drop", "paper"):
            self.assertFalse(hasattr(Copy, name))

    def test_kinds(self):
        one = Keeper(name="ann", among=NAMES)
        self.assertEqual([type(told) for told in (one.line(), one.drop(), one.paper(), one.news(table={}))], [int, int, list, list])
        with self.assertRaises(TypeError):
            Keeper("ann", NAMES)


if __name__ == "__main__":
    unittest.main()
