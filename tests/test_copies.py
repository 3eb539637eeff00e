"""Points 24, 25, 28 and 29, and of 1 to 4 what they say of copies, but for the edits."""

import inspect
import itertools
import random
import unittest

from heardalike import copies
from heardalike.copies import Copy
from heardalike.deeds import is_deed
from heardalike.deedtexts import deed_of, deed_text
from heardalike.heard import Heard
from heardalike.keepers import Keeper
from heardalike.places import lies
from heardalike.shows import shown
from heardalike.stamps import ROOT
from heardalike.standing import BARE, standing, table, waiting
from heardalike.valuetexts import value_text
from tests.model import written
from tests.refusals import Refusing, all_told, refusal
from tests.sets import drawn, orders, read, stamps
from tests.things import ANYTHING, HUGE, Sour, Sweet
from tests.values import holders, spoil, strict

NAMES = ["ann", "bob", "cy"]
DEEDS = read(
    "1.ann 0 put 0. a text", "2.bob 0 put 1.ann 0. sign x", "3.ann 1 put 1.ann 2.bob sign y", "4.bob 2 take 3.ann", "5.ann 3 undo 4.bob",
    "5.cy 0 seen 2", "6.cy 5 put 0. l list",
)


def copy_of(name="ann", deeds=(), among=NAMES, kind=Copy):
    one = kind(name, among=list(among))
    for deed in deeds:
        one.hear(deed)
    return one


class Names(Refusing):
    KIND = Copy

    def test_its_name_and_those_among_whom_it_is(self):
        for among in (["ann"], ["bob", "ann"], ["cy", "ann", "bob"], ["f", "e", "d", "c", "b", "ann"], ["abcdefgh", "ann"]):
            one = self.KIND("ann", among=among)
            self.assertEqual(one.name(), "ann")
            self.assertEqual(one.among(), among)
            self.assertIs(type(one.among()), list)

    def test_a_stranger(self):
        for name, among in (("dan", NAMES), ("an", NAMES), ("annn", NAMES), ("ann", ["bob"]), ("a", ["ann"]), ("", NAMES), ("Ann", NAMES)):
            error = refusal(self.KIND, name, among=list(among))
            self.assertEqual((type(error).__name__, vars(error)), ("Stranger", {"who": name}))

    def test_a_stranger_of_any_kind(self):
        for thing in (*ANYTHING, Sour(), Sweet(), ["ann"], ("ann",), b"ann"):
            if not isinstance(thing, str) or thing not in NAMES:
                error = refusal(self.KIND, thing, among=list(NAMES))
                self.assertEqual(type(error).__name__, "Stranger")
                self.assertIs(error.who, thing)

    def test_the_names_are_its_own(self):
        among = list(NAMES)
        one = self.KIND("ann", among=among)
        among.remove("bob")
        among.append("dan")
        self.assertEqual(one.among(), NAMES)
        self.assertEqual(one.hear(deed_of("1.bob 0 seen 0")), [(1, "bob")])
        self.refused(one, "Stranger", {"who": "dan"}, one.hear, deed_of("1.dan 0 seen 0"))
        told = one.among()
        told.clear()
        self.assertEqual(one.among(), NAMES)
        self.assertIsNot(one.among(), one.among())
        self.assertEqual(one.known(), 0)


class KeeperNames(Names):
    KIND = Keeper


class Hearing(Refusing):
    KIND = Copy

    def held(self, one, deeds):
        """The copy tells what is told of the set."""
        rising = sorted(deeds, key=lambda deed: deed[0])
        self.assertEqual(written(one.deeds()), written(rising))
        self.assertEqual(one.stands(), standing(rising))
        self.assertEqual(one.waits(), waiting(rising))
        self.assertEqual(one.counts(), table(rising))
        self.assertEqual(one.ground(), BARE)
        self.assertEqual(strict(one.shown()), strict(shown(rising)))
        self.assertEqual(strict(one.at([])), strict(shown(rising)))


class Hears(Hearing):
    def test_nothing_heard(self):
        one = copy_of(kind=self.KIND)
        self.held(one, [])
        self.assertEqual((one.log(), one.known(), one.told(), one.shown()), ([], 0, 0, {}))

    def test_each_tells_what_stands_now(self):
        one = copy_of(kind=self.KIND)
        self.assertEqual([one.hear(deed) for deed in DEEDS], [[deed[0]] for deed in DEEDS])
        self.held(one, DEEDS)
        self.assertEqual(one.log(), [])

    def test_late_and_twice(self):
        one = copy_of(kind=self.KIND)
        for deed in (DEEDS[4], DEEDS[3], DEEDS[2], DEEDS[1]):
            self.assertEqual(one.hear(deed), [])
            self.assertEqual(one.hear(deed), [])
        self.assertEqual(one.hear(DEEDS[0]), stamps("1.ann 2.bob 3.ann 4.bob 5.ann"))
        self.assertEqual(one.hear(DEEDS[0]), [])
        self.held(one, DEEDS[:5])

    def test_in_all_orders(self):
        deeds = DEEDS[:5]
        for handed in itertools.permutations(deeds):
            one, heard = copy_of(kind=self.KIND), Heard()
            for deed in handed:
                self.assertEqual(one.hear(deed), heard.hear(deed))
            self.held(one, deeds)

    def test_drawn_by_lot(self):
        for seed in range(10):
            deeds = drawn(seed)
            for handed in orders(deeds, 1):
                one, heard = copy_of(kind=self.KIND), Heard()
                for deed in handed:
                    self.assertEqual(one.hear(deed), heard.hear(deed))
                self.held(one, deeds)

    def test_what_is_no_deed(self):
        one = copy_of(deeds=DEEDS, kind=self.KIND)
        for thing in (*ANYTHING, Sour(), Sweet(), list(DEEDS[0]), deed_text(DEEDS[0]), ((1, "dan"), 1, ("seen", 0)), ((1, "Dan"), 0, ("seen", 0))):
            if not is_deed(thing):
                self.refused(one, "NoDeed", {}, one.hear, thing)

    def test_deeds_of_strangers(self):
        one = copy_of(deeds=DEEDS, kind=self.KIND)
        for text in ("1.dan 0 seen 0", "7.anna 0 put 0. a list", "9.a 8 take 1.ann"):
            self.refused(one, "Stranger", {"who": deed_of(text)[0][1]}, one.hear, deed_of(text))
        one.hear(deed_of("9.bob 8 take 7.dan"))
        self.assertEqual(one.waits(), [((9, "bob"), (8, "bob"))])

    def test_another_deed_with_a_stamp_that_was_heard(self):
        one = copy_of(deeds=DEEDS, kind=self.KIND)
        for text in ("1.ann 0 put 0. a list", "2.bob 0 seen 0", "5.cy 0 seen 1", "3.ann 0 put 1.ann 2.bob sign y"):
            self.refused(one, "Forged", {"stamp": deed_of(text)[0]}, one.hear, deed_of(text))

    def test_at(self):
        one = copy_of(deeds=[*DEEDS, *read("7.cy 6 put 6.cy 0. object", "8.cy 7 put 7.cy z leaf yes", "9.cy 8 put 6.cy 7.cy leaf 9")], kind=self.KIND)
        for path, value in (
            ([], {"a": "xy", "l": [{"z": True}, 9]}), (["a"], "xy"), (["a", 0], "x"), (["a", 1], "y"), (["l"], [{"z": True}, 9]), (["l", 0], {"z": True}),
            (["l", 0, "z"], True), (["l", 1], 9),
        ):
            self.assertEqual(strict(one.at(path)), strict(value))
        for path, step in ((["b"], 0), ([0], 0), (["a", 2], 1), (["a", "x"], 1), (["a", 0, 0], 2), (["l", -1], 1), (["l", True], 1), (["l", 0, 0], 2), ([None, "a"], 0)):
            self.refused(one, "NoPath", {"path": path, "step": step}, one.at, path)


class KeeperHears(Hears):
    KIND = Keeper


class HearAll(Hearing):
    KIND = Copy

    def test_a_list_in_any_order(self):
        for handed in orders(DEEDS, 6):
            one = copy_of(kind=self.KIND)
            kept = list(handed)
            self.assertEqual(one.hear_all(handed), [deed[0] for deed in DEEDS])
            self.assertEqual(handed, kept)
            self.held(one, DEEDS)
            self.assertEqual(one.log(), [("in", 7), ("out", 7)])

    def test_what_stood_ahead_is_not_told(self):
        one = copy_of(deeds=DEEDS[:2], kind=self.KIND)
        self.assertEqual(one.hear_all(DEEDS[3:1:-1]), stamps("3.ann 4.bob"))
        self.assertEqual(one.hear_all(DEEDS[:4]), [])
        self.assertEqual(one.hear_all([DEEDS[6]]), [])
        self.assertEqual(one.hear_all([DEEDS[5], DEEDS[5]]), stamps("5.cy 6.cy"))
        self.assertEqual(one.log(), [("in", 2), ("out", 2), ("in", 4), ("out", 4), ("in", 1), ("out", 1), ("in", 2), ("out", 2)])

    def test_an_empty_list(self):
        one = copy_of(kind=self.KIND)
        self.assertEqual(one.hear_all([]), [])
        self.assertEqual(one.log(), [("in", 0), ("out", 0)])

    def test_what_is_refused_in_the_middle(self):
        forged = deed_of("1.ann 0 seen 0")
        for bad, kind, fields in (
            (None, "NoDeed", {}), (list(DEEDS[2]), "NoDeed", {}), (deed_of("9.dan 0 seen 0"), "Stranger", {"who": "dan"}), (forged, "Forged", {"stamp": (1, "ann")}),
        ):
            for at in range(1, len(DEEDS) + 1):
                one = copy_of(kind=self.KIND)
                error = refusal(one.hear_all, [*DEEDS[:at], bad, *DEEDS[at:]])
                self.assertEqual((type(error).__name__, vars(error)), (kind, fields))
                self.held(one, DEEDS[:at])
                self.assertEqual(one.log(), [("in", len(DEEDS) + 1), ("out", at)])
                self.assertEqual(one.hear_all(DEEDS), [deed[0] for deed in DEEDS[at:]])
                self.assertEqual(one.log(), [("in", len(DEEDS) + 1), ("out", at), ("in", 7), ("out", 7)])

    def test_the_first_of_several_that_are_refused(self):
        one = copy_of(kind=self.KIND)
        error = refusal(one.hear_all, [deed_of("9.dan 0 seen 0"), None, DEEDS[0]])
        self.assertEqual((type(error).__name__, vars(error)), ("Stranger", {"who": "dan"}))
        self.assertEqual(one.log(), [("in", 3), ("out", 0)])
        self.assertEqual(one.deeds(), [])
        self.assertEqual(type(refusal(one.hear_all, [DEEDS[0], None, deed_of("9.dan 0 seen 0")])).__name__, "NoDeed")
        self.assertEqual(one.log()[2:], [("in", 3), ("out", 1)])
        self.assertEqual(one.deeds(), DEEDS[:1])

    def test_the_log_is_the_askers_own(self):
        one = copy_of(kind=self.KIND)
        one.hear_all(DEEDS)
        log = one.log()
        self.assertEqual([type(row) for row in log], [tuple, tuple])
        log.clear()
        self.assertEqual(one.log(), [("in", 7), ("out", 7)])
        one.hear(deed_of("8.cy 6 seen 0"))
        one.put([], ("list",), place="z")
        one.news({})
        self.assertEqual(one.log(), [("in", 7), ("out", 7)])

    def test_a_list_changed_behind_the_call(self):
        one = copy_of(kind=self.KIND)
        handed = list(DEEDS)
        told = one.hear_all(handed)
        handed.clear()
        self.held(one, DEEDS)
        told.clear()
        self.assertEqual(one.hear_all(DEEDS), [])


class KeeperHearAll(HearAll):
    KIND = Keeper


class Makes(Refusing):
    KIND = Copy

    def test_the_first_ones(self):
        one = copy_of(kind=self.KIND)
        self.assertEqual(one.put([], ("list",), place="a"), deed_of("1.ann 0 put 0. a list"))
        self.assertEqual(one.put(["a"], ("leaf", 1)), deed_of("2.ann 1 put 1.ann 0. leaf 1"))
        self.assertEqual(one.seen(), deed_of("3.ann 2 seen 0"))
        self.assertEqual(one.undo(), deed_of("4.ann 3 undo 2.ann"))
        self.assertEqual(one.deeds(), one.stands())
        self.assertEqual(written(one.deeds()), ["1.ann 0 put 0. a list", "2.ann 1 put 1.ann 0. leaf 1", "3.ann 2 seen 0", "4.ann 3 undo 2.ann"])
        self.assertEqual(one.log(), [])

    def test_counts_are_one_more_than_the_greatest_that_was_heard(self):
        one = copy_of(deeds=read("7.bob 0 put 0. b leaf 1"), kind=self.KIND)
        self.assertEqual(one.put([], ("list",), place="a"), deed_of("8.ann 0 put 0. a list"))
        one.hear(deed_of("20.bob 19 seen 0"))
        self.assertEqual(one.waits(), [((20, "bob"), (19, "bob"))])
        self.assertEqual(one.put(["a"], ("leaf", 1)), deed_of("21.ann 8 put 8.ann 0. leaf 1"))
        one.hear(deed_of("15.cy 0 seen 0"))
        self.assertEqual(one.take(["a", 0]), [deed_of("22.ann 21 take 21.ann")])

    def test_great_counts(self):
        one = copy_of(deeds=read("999999999999998.bob 0 seen 0"), kind=self.KIND)
        self.assertEqual(one.seen(), deed_of("999999999999999.ann 0 seen 0"))

    def test_it_stands_at_once_and_is_news(self):
        one, other = copy_of(kind=self.KIND), copy_of("bob", kind=self.KIND)
        deed = one.put([], ("text",), place="t")
        self.assertEqual(one.stands(), [deed])
        self.assertEqual(one.news(other.counts()), [deed])
        self.assertEqual(one.hear(deed), [])
        self.assertEqual(other.hear_all(one.news(other.counts())), [deed[0]])
        self.assertEqual(one.news(other.counts()), [])
        self.assertEqual(other.put(["t"], ("sign", "x")), deed_of("2.bob 0 put 1.ann 0. sign x"))


class KeeperMakes(Makes):
    KIND = Keeper


class News(Refusing):
    KIND = Copy

    def test_for_tables(self):
        one = copy_of(deeds=[*DEEDS, *read("9.bob 8 seen 0")], kind=self.KIND)
        for counts, told in (
            ({}, "1.ann 2.bob 3.ann 4.bob 5.ann 5.cy 6.cy"), ({"ann": 1}, "2.bob 3.ann 4.bob 5.ann 5.cy 6.cy"), ({"ann": 5, "bob": 4, "cy": 6}, ""),
            ({"ann": 0, "bob": 0, "cy": 0}, "1.ann 2.bob 3.ann 4.bob 5.ann 5.cy 6.cy"), ({"ann": 4, "bob": 3, "cy": 5}, "4.bob 5.ann 6.cy"),
            ({"bob": 2, "cy": 99}, "1.ann 3.ann 4.bob 5.ann"), ({"ann": 10 ** 30, "bob": HUGE, "cy": HUGE}, ""), ({"ann": -1, "bob": -HUGE, "cy": 6}, "1.ann 2.bob 3.ann 4.bob 5.ann"),
        ):
            self.assertEqual([deed[0] for deed in one.news(counts)], stamps(told))
            self.assertEqual(one.news(counts), [deed for deed in one.stands() if deed[0] in stamps(told)])

    def test_names_of_any_kind(self):
        one = copy_of(deeds=DEEDS, kind=self.KIND)
        strange = {"dan": 9, "": 9, "Ann": 9, "ann ": 9, None: 9, 1: 9, (5, "ann"): 9, ("ann",): 9, b"ann": 9}
        self.assertEqual(one.news(strange), one.news({}))
        self.assertEqual(one.news({**strange, "ann": 5}), one.news({"ann": 5}))

    def test_counts_of_any_kind(self):
        one = copy_of(deeds=DEEDS, kind=self.KIND)
        for count in (None, "9", "", [], {}, (9,), b"9", True, False, Sour(), ROOT):
            self.assertEqual(one.news({"ann": count, "bob": 2}), one.news({"bob": 2}))

    def test_the_table_stays_and_the_news_are_the_askers_own(self):
        one = copy_of(deeds=DEEDS, kind=self.KIND)
        counts = {"ann": 1, "zoe": 3}
        told = one.news(counts)
        kept = list(told)
        self.assertEqual(counts, {"ann": 1, "zoe": 3})
        told.clear()
        counts.clear()
        self.assertEqual(one.news({"ann": 1, "zoe": 3}), kept)

    def test_a_table_that_was_told_is_its_own(self):
        one, other = copy_of(deeds=DEEDS, kind=self.KIND), copy_of("bob", kind=self.KIND)
        counts = other.counts()
        other.hear_all(one.news(counts))
        self.assertEqual(counts, {})
        counts["ann"] = 99
        self.assertEqual(other.counts(), one.counts())


class KeeperNews(News):
    KIND = Keeper


class Known(Refusing):
    KIND = Copy

    def test_the_least_count_of_all_names(self):
        one = copy_of(kind=self.KIND)
        for text, known in (
            ("1.ann 0 seen 0", 0), ("4.bob 0 seen 0", 0), ("3.cy 0 seen 0", 1), ("6.ann 1 seen 0", 3), ("9.cy 8 seen 0", 3), ("5.cy 3 seen 0", 4), ("7.bob 4 seen 0", 5),
            ("8.cy 5 seen 0", 6),
        ):
            one.hear(deed_of(text))
            self.assertEqual(one.known(), known)
        self.assertEqual(one.waits(), [])
        self.assertEqual(copy_of(deeds=DEEDS, among=["ann", "bob", "cy"], kind=self.KIND).known(), 4)
        self.assertEqual(copy_of(deeds=DEEDS, among=["ann", "bob", "cy", "dan"], kind=self.KIND).known(), 0)
        self.assertEqual(copy_of(deeds=read("7.ann 0 seen 0"), among=["ann"], kind=self.KIND).known(), 7)

    def test_seen(self):
        one = copy_of(deeds=DEEDS, kind=self.KIND)
        self.assertEqual(one.told(), 0)
        self.assertEqual(one.seen(upto=2), deed_of("7.ann 5 seen 2"))
        self.assertEqual(one.told(), 2)
        self.assertEqual(one.seen(upto=2), deed_of("8.ann 7 seen 2"))
        self.assertEqual(one.seen(upto=None), deed_of("9.ann 8 seen 4"))
        self.assertEqual(one.told(), 4)
        self.assertEqual(one.seen(), deed_of("10.ann 9 seen 4"))
        self.assertEqual(copy_of(deeds=DEEDS, kind=self.KIND).seen(upto=0), deed_of("7.ann 5 seen 0"))
        self.assertEqual(copy_of(deeds=DEEDS, kind=self.KIND).seen(upto=4), deed_of("7.ann 5 seen 4"))

    def test_of_others_nothing_is_told(self):
        one = copy_of(deeds=DEEDS, kind=self.KIND)
        self.assertEqual(one.told(), 0)
        self.assertEqual(copy_of("cy", DEEDS, kind=self.KIND).told(), 2)

    def test_not_known(self):
        one = copy_of(deeds=DEEDS, kind=self.KIND)
        one.seen(upto=2)
        for thing in (*ANYTHING, 0, 1, 5, 6, 99, HUGE, -HUGE, True, False, "3", (3,), [3], Sour(), Sweet()):
            if thing is not None and not (type(thing) is int and 2 <= thing <= 4):
                self.refused(one, "NotKnown", {"upto": thing}, one.seen, upto=thing)
        fresh = copy_of(kind=self.KIND)
        for thing in (True, False, -1, 1):
            self.refused(fresh, "NotKnown", {"upto": thing}, fresh.seen, upto=thing)

    def test_all_of_counts_up_to_what_it_knows_stand(self):
        for seed in range(5):
            lot = random.Random(seed)
            room = {name: copy_of(name, kind=self.KIND) for name in NAMES}
            for _ in range(40):
                one, other = lot.sample(sorted(room), 2)
                room[one].put([], ("leaf", 1), place="a")
                for deed in room[one].news(room[other].counts()):
                    if lot.random() < 0.8:
                        room[other].hear(deed)
            made = {deed[0] for one in room.values() for deed in one.deeds()}
            for one in room.values():
                stood = {deed[0] for deed in one.stands()}
                self.assertEqual([], [stamp for stamp in made - stood if stamp[0] <= one.known()])


class KeeperKnown(Known):
    KIND = Keeper


class Apart(Refusing):
    KIND = Copy

    def test_two_of_them(self):
        one, other = copy_of(kind=self.KIND), copy_of("bob", kind=self.KIND)
        ahead = all_told(other)
        one.hear_all(DEEDS)
        one.put(["a"], ("sign", "q"))
        one.seen()
        self.assertEqual(all_told(other), ahead)
        ahead = all_told(one)
        other.put([], ("leaf", 1), place="a")
        other.hear_all([])
        self.assertEqual(all_told(one), ahead)

    def test_of_one_list_of_names(self):
        among = list(NAMES)
        one, other = self.KIND("ann", among=among), self.KIND("bob", among=among)
        one.among().clear()
        self.assertEqual(other.among(), NAMES)
        self.assertEqual(among, NAMES)

    def test_told_lists_and_dicts_are_the_askers_own(self):
        one = copy_of(deeds=[*DEEDS, *read("7.cy 6 put 6.cy 0. object", "9.bob 8 seen 0")], kind=self.KIND)
        ahead = all_told(one)
        for ask in (one.among, one.log, one.deeds, one.stands, one.waits):
            told = ask()
            told.append(None)
            told.reverse()
            told.clear()
        one.counts().clear()
        one.counts()["ann"] = 99
        spoil(one.shown())
        spoil(one.at(["l"]))
        one.news({}).clear()
        self.assertEqual(all_told(one), ahead)
        told = one.hear(deed_of("8.bob 4 seen 0"))
        self.assertEqual(told, stamps("8.bob 9.bob"))
        ahead = all_told(one)
        told.clear()
        self.assertEqual(all_told(one), ahead)

    def test_no_two_of_one_answer_are_one(self):
        one = copy_of(deeds=DEEDS, kind=self.KIND)
        for field in "bcd":
            one.put([], ("list",), place=field)
            one.put([field], ("object",))
            one.put([field], ("object",))
        told = holders(one.shown())
        self.assertEqual(len({id(inner) for inner in told}), len(told))
        self.assertIsNot(one.shown(), one.shown())

    def test_asked_again_the_same_is_told(self):
        one = copy_of(deeds=drawn(2), kind=self.KIND)
        self.assertEqual([all_told(one) for _ in range(3)], [all_told(one)] * 3)

    def test_a_hundred_and_twenty_deeds(self):
        one, other = copy_of(kind=self.KIND), copy_of("bob", kind=self.KIND)
        path = []
        for _ in range(60):
            one.put(path, ("object",), place="a")
            path.append("a")
        one.give(path, "t", ("text",))
        one.write([*path, "t"], "x" * 59)
        self.assertEqual(len(one.deeds()), 120)
        news = one.news({})
        other.hear_all(news[::-1])
        self.assertEqual(other.at([*path, "t"]), "x" * 59)
        self.assertEqual(value_text(other.shown()), value_text(one.shown()))
        self.assertEqual(len(lies(other.deeds())), 120)


class KeeperApart(Apart):
    KIND = Keeper


class Alike(unittest.TestCase):
    def change(self, lot, one):
        """Some edit, which may be refused."""
        field, number = lot.choice("ab"), lot.randrange(9)
        calls = [
            lambda: one.put([], ("leaf", number), place=field), lambda: one.put([], ("list",), place=field), lambda: one.give([], field, ("list",)),
            lambda: one.put([field], ("leaf", number), place=0), lambda: one.put([field], ("leaf", number)), lambda: one.take([field]),
            lambda: one.move(["a"], ["b"]), lambda: one.move(["b"], ["a"]), lambda: one.erase([field]), one.undo, one.again,
        ]
        refusal(lot.choice(calls))

    def test_two_that_have_no_news_for_each_other_show_alike(self):
        lot = random.Random(29)
        for _ in range(20):
            room = [copy_of(name) for name in NAMES]
            for _ in range(25):
                one, other = lot.choice(room), lot.choice(room)
                self.change(lot, one)
                news = one.news(other.counts())
                lot.shuffle(news)
                other.hear_all(news[:lot.randrange(9)])
            for one, other in list(itertools.permutations(room, 2)) * 2:
                other.hear_all(one.news(other.counts()))
            for one, other in itertools.permutations(room, 2):
                self.assertEqual(one.news(other.counts()), [])
                self.assertEqual(strict(one.shown()), strict(other.shown()))
                self.assertEqual(one.deeds(), other.deeds())
                self.assertEqual(one.waits(), [])


class Interface(unittest.TestCase):
    SIGNATURES = {
        "name": "(self)", "among": "(self)", "hear": "(self, deed)", "hear_all": "(self, deeds)", "log": "(self)", "deeds": "(self)", "stands": "(self)", "waits": "(self)",
        "counts": "(self)", "ground": "(self)", "shown": "(self)", "at": "(self, path)", "news": "(self, table)", "put": "(self, path, what, *, place=-1)",
        "write": "(self, path, text, *, place=-1)", "give": "(self, path, field, what)", "move": "(self, path, to, *, place=-1)", "take": "(self, path)",
        "erase": "(self, path, *, place=0, many=1)", "undo": "(self, stamp=None)", "again": "(self)", "seen": "(self, *, upto=None)", "known": "(self)", "told": "(self)",
    }

    def test_methods_stand_in_the_class(self):
        self.assertEqual(Copy.__module__, "heardalike.copies")
        self.assertEqual(str(inspect.signature(copies.Copy)), "(name, *, among)")
        for name, told in self.SIGNATURES.items():
            self.assertIn(name, vars(Copy))
            self.assertEqual(str(inspect.signature(vars(Copy)[name])), told, name)

    def test_arguments_by_their_names(self):
        one = Copy(name="ann", among=NAMES)
        self.assertEqual(one.hear(deed=DEEDS[0]), [(1, "ann")])
        self.assertEqual(one.hear_all(deeds=DEEDS[1:2]), [(2, "bob")])
        self.assertEqual(one.at(path=["a"]), "x")
        self.assertEqual(one.news(table={"ann": 1}), DEEDS[1:2])
        with self.assertRaises(TypeError):
            Copy("ann", NAMES)
        with self.assertRaises(TypeError):
            one.seen(0)

    def test_kinds(self):
        one = copy_of(deeds=DEEDS)
        self.assertEqual([type(told) for told in (one.deeds(), one.stands(), one.waits(), one.log(), one.news({}), one.hear(DEEDS[0]), one.hear_all([]))], [list] * 7)
        self.assertEqual([type(told) for told in (one.counts(), one.shown(), one.ground(), one.known(), one.told(), one.name())], [dict, dict, tuple, int, int, str])


if __name__ == "__main__":
    unittest.main()
