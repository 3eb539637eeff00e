"""Point 36, and of 1 to 4 what they say of rooms."""

import inspect
import itertools
import unittest

from heardalike import rooms
from heardalike.deedtexts import deed_text
from heardalike.edits import END
from heardalike.errors import HeardError
from heardalike.keepers import Keeper
from heardalike.rooms import Room
from heardalike.stamps import stamp_text
from heardalike.valuetexts import value_text
from tests.pairs import Calls, Pair
from tests.refusals import refusal
from tests.things import ANYTHING, HUGE, Sour, Sweet

NAMES = ["ann", "bob", "cy"]
SCENE = [
    "ann put / o object", "ann put /o l list", "ann put /o/l end leaf 1", "ann put /o/l end leaf 2", "ann put /o t text", "ann write /o/t end ab c", "ann put / v leaf none",
]
VALUE = '{"o":{"l":[1,2],"t":"ab c"},"v":null}'
THIRTY, THIRTY_ONE = "9" * 30, "1" + "0" * 30


def room_of(*rows, names=NAMES):
    room = Room(list(names))
    for row in rows:
        room.say(row)
    return room


def state(room, names=NAMES):
    """All that can be asked of a room."""
    return [room.say(f"{name} {word}") for name in names for word in ("shows /", "waits", "line", *[f"same {other}" for other in names])]


class Rooms(unittest.TestCase):
    def said(self, room, *pairs):
        """Each row is answered so."""
        for row, answer in pairs:
            told = room.say(row)
            self.assertIs(type(told), str)
            self.assertEqual(told, answer, row)

    def refused(self, room, row, kind, **fields):
        """The row is refused so, and changes nothing."""
        ahead = state(room)
        error = refusal(room.say, row)
        self.assertEqual(type(error).__name__, kind, row if isinstance(row, str) else None)
        self.assertEqual(vars(error), fields)
        self.assertEqual(state(room), ahead)

    def no_row(self, room, row):
        error = refusal(room.say, row)
        self.assertEqual(type(error).__name__, "NoRow", row if isinstance(row, str) else None)
        self.assertEqual(vars(error), {})


class Rows(Rooms):
    def test_each_kind(self):
        self.said(
            room_of(), ("ann put / o object", "1.ann 0 put 0. o object"), ("ann put /o l list", "2.ann 1 put 1.ann l list"), ("ann put /o/l 0 leaf 5", "3.ann 2 put 2.ann 0. leaf 5"),
            ("ann put /o/l end leaf yes", "4.ann 3 put 2.ann 3.ann leaf yes"), ("ann put / t text", "5.ann 4 put 0. t text"), ("ann write /t 0 hello", "5"),
            ("ann shows /", '{"o":{"l":[5,true]},"t":"hello"}'), ("ann give /o l leaf -7", "12.ann 11 put 1.ann l leaf -7"), ("ann shows /o", '{"l":-7}'), ("ann undo", "13.ann 12 undo 12.ann"),
            ("ann shows /o", "{}"), ("ann undo", "14.ann 13 undo 11.ann"), ("ann shows /o/l", "[5,true]"), ("ann again", "15.ann 14 undo 14.ann"), ("ann again", "16.ann 15 undo 13.ann"),
            ("ann shows /o/l", "-7"), ("ann undo 12.ann", "17.ann 16 undo 12.ann"), ("ann undo 11.ann", "18.ann 17 undo 11.ann"), ("ann move /o/l/1 /o/l 0", "19.ann 18 move 4.ann 2.ann 0."),
            ("ann move /o/l / x", "20.ann 19 move 2.ann 0. x"), ("ann shows /x", "[true,5]"), ("ann take /x/0", "1"), ("ann erase /t 1 3", "3"), ("ann shows /t", '"ho"'), ("ann shows /t/1", '"o"'),
            ("ann seen", "25.ann 24 seen 0"), ("ann waits", "0"), ("ann line", "0"), ("ann drop", "0"), ("bob hears ann", "25"), ("bob hears ann", "0"), ("bob same ann", "yes"),
            ("cy same ann", "no"), ("bob shows /", '{"o":{},"t":"ho","x":[5]}'), ("cy shows /", "{}"),
        )

    def test_the_scene(self):
        self.assertEqual([room_of(*SCENE).say("ann shows /"), room_of(*SCENE).say("bob shows /")], [VALUE, "{}"])

    def test_paths(self):
        room = room_of(*SCENE)
        for path, value in (("/", VALUE), ("/o", '{"l":[1,2],"t":"ab c"}'), ("/o/l", "[1,2]"), ("/o/l/0", "1"), ("/o/l/1", "2"), ("/o/t", '"ab c"'), ("/o/t/2", '" "'), ("/v", "null")):
            self.said(room, (f"ann shows {path}", value))
        self.refused(room, "ann shows /x", "NoPath", path=["x"], step=0)
        self.refused(room, "ann shows /o/l/2", "NoPath", path=["o", "l", 2], step=2)
        self.refused(room, "ann shows /o/0/a", "NoPath", path=["o", 0, "a"], step=1)
        self.refused(room, "ann shows /v/v", "NoPath", path=["v", "v"], step=1)
        self.refused(room, f"ann shows /o/l/{THIRTY}", "NoPath", path=["o", "l", int(THIRTY)], step=2)

    def test_what_give_and_take_tell(self):
        room = room_of(*SCENE, "bob put / v leaf 1", "bob hears ann", "ann hears bob", "cy hears ann")
        self.said(room, ("cy give / v leaf 3", "13.cy 12 put 0. v leaf 3"))
        self.said(room, ("ann take /v", "2"), ("ann shows /", '{"o":{"l":[1,2],"t":"ab c"}}'), ("ann give / v object", "13.ann 12 put 0. v object"))

    def test_whats(self):
        room = room_of(*SCENE, names=["ann"])
        for what, value in (
            ("object", "{}"), ("list", "[]"), ("text", '""'), ("leaf none", "null"), ("leaf yes", "true"), ("leaf no", "false"), ("leaf 0", "0"), ("leaf 1", "1"), ("leaf -1", "-1"),
            (f"leaf {THIRTY}", THIRTY), (f"leaf -{THIRTY}", "-" + THIRTY),
        ):
            self.assertTrue(room.say(f"ann put / w {what}").endswith(f" put 0. w {what}"))
            self.said(room, ("ann shows /w", value))
            self.assertTrue(room.say(f"ann give / w {what}").endswith(f" put 0. w {what}"))
            self.said(room, ("ann shows /w", value))

    def test_signs(self):
        room = room_of("ann put / t text")
        for sign in ("x", " ", '"', "\\", "/", "~", "!"):
            self.assertTrue(room.say(f"ann put /t end sign {sign}").endswith(f" sign {sign}"))
        self.said(room, ("ann shows /t", '"x \\"\\\\/~!"'), ("ann put /t 0 sign  ", "9.ann 8 put 1.ann 0. sign  "))
        self.refused(room, "ann put / a sign x", "NoWhat")
        self.refused(room, "ann give / a sign  ", "NoWhat")
        for row in ("ann put /t 0 sign", "ann put /t 0 sign ", "ann put /t 0 sign xy", "ann put /t 0 sign   ", "ann put /t 0 sign x ", "ann put /t 0 sign  x", "ann put /t 0 sign \n"):
            self.no_row(room, row)

    def test_texts(self):
        room = room_of("ann put / t text")
        self.said(
            room, ("ann write /t end ", "0"), ("ann shows /t", '""'), ("ann write /t end  ", "1"), ("ann shows /t", '" "'), ("ann write /t 0   a  b ", "7"), ("ann shows /t", '"  a  b  "'),
            ("ann write /t end put / a", "7"), ("ann shows /t", '"  a  b  put / a"'), ("ann erase /t 0 15", "15"), ("ann write /t 0 \"\\", "2"), ("ann shows /t", '"\\"\\\\"'),
        )
        self.no_row(room, "ann write /t end")
        self.no_row(room, "ann write /t")
        self.no_row(room, "ann write /t  x")
        self.refused(room, "ann write /t 0 a\nb", "NoWhat")
        self.refused(room, "ann write /t 3 ", "NoPlace", place=3)
        self.refused(room, "ann write / 0 ", "NoPath", path=[], step=0)
        self.refused(room, "ann write /x 0 a\nb", "NoPath", path=["x"], step=0)

    def test_end(self):
        room = room_of("ann put / l list", "ann put / t text", "ann put / o object")
        self.said(
            room, ("ann put /l end leaf 1", "4.ann 3 put 1.ann 0. leaf 1"), ("ann put /l end leaf 2", "5.ann 4 put 1.ann 4.ann leaf 2"), ("ann put /t end sign x", "6.ann 5 put 2.ann 0. sign x"),
            ("ann write /t end yz", "2"), ("ann put /o end leaf 3", "9.ann 8 put 3.ann end leaf 3"), ("ann put / end list", "10.ann 9 put 0. end list"), ("ann move /l/0 /l end", "11.ann 10 move 4.ann 1.ann 5.ann"),
            ("ann move /l/0 /o end", "12.ann 11 move 5.ann 3.ann end"), ("ann move /l/0 / end", "13.ann 12 move 4.ann 0. end"), ("ann shows /", '{"end":1,"l":[],"o":{"end":2},"t":"xyz"}'),
            ("ann give / end leaf 5", "16.ann 15 put 0. end leaf 5"), ("ann shows /end", "5"),
        )
        self.refused(room, "ann erase /t end 1", "NoPlace", place=END)
        self.refused(room, "ann erase /l end 0", "NoPlace", place=END)
        self.refused(room, "ann erase /o end 1", "NoPath", path=["o"], step=1)
        self.refused(room, "ann write /l end x", "NoPath", path=["l"], step=1)
        self.refused(room, "ann put /end end leaf 1", "NoPath", path=["end"], step=1)
        self.refused(room, "ann put /x end leaf 1", "NoPath", path=["x"], step=0)
        self.refused(room, "ann move /x /y end", "NoPath", path=["x"], step=0)
        self.refused(room, "ann move /l /y end", "NoPath", path=["y"], step=0)
        self.refused(room, "ann move / /l end", "NoPath", path=[], step=0)
        self.refused(room, "ann move /l /l end", "Ring", thing=(1, "ann"))
        self.refused(room, "ann put /t end leaf 1", "NoWhat")

    def test_places(self):
        room = room_of(*SCENE)
        self.refused(room, "ann put / 0 leaf 1", "NoPlace", place=0)
        self.refused(room, "ann put /o/l a leaf 1", "NoPlace", place="a")
        self.refused(room, "ann put /o/l 3 leaf 1", "NoPlace", place=3)
        self.refused(room, f"ann put /o/l {THIRTY} leaf 1", "NoPlace", place=int(THIRTY))
        self.refused(room, "ann move /v /o/l a", "NoPlace", place="a")
        self.refused(room, "ann write /o/t t x", "NoPlace", place="t")
        self.refused(room, "ann erase /o/t a 1", "NoPlace", place="a")
        self.refused(room, f"ann erase /o/t 1 {THIRTY}", "NoPlace", place=1)
        self.said(room, ("ann put /o/l 2 leaf 3", "11.ann 10 put 2.ann 4.ann leaf 3"), ("ann erase /o/l 3 0", "0"), ("ann erase /o/l 0 3", "3"))

    def test_undos(self):
        room = room_of(*SCENE)
        for text in ("12.ann", "1.bob", "99.ann", "999999999999999.cy", "1.zoe"):
            count, name = text.split(".")
            self.refused(room, f"ann undo {text}", "Unknown", stamp=(int(count), name))
        self.refused(room, "bob undo 1.ann", "Unknown", stamp=(1, "ann"))
        self.refused(room, "bob undo", "Nothing")
        self.refused(room, "ann again", "Nothing")
        self.said(room, ("bob hears ann", "10"), ("bob undo 1.ann", "11.bob 0 undo 1.ann"), ("bob shows /", '{"v":null}'), ("bob again", "12.bob 11 undo 11.bob"))

    def test_seen_and_drop(self):
        room = room_of("ann put / a leaf 1", "bob put / b leaf 2", "cy put / c leaf 3", names=NAMES)
        for one, other in itertools.permutations(NAMES, 2):
            room.say(f"{one} hears {other}")
        self.said(room, ("ann seen", "2.ann 1 seen 1"), ("bob seen", "2.bob 1 seen 1"), ("cy seen", "2.cy 1 seen 1"), ("ann line", "0"), ("ann drop", "0"))
        self.said(room, ("ann hears bob", "1"), ("ann line", "0"), ("ann hears cy", "1"), ("ann line", "1"), ("ann drop", "1"), ("ann line", "1"), ("ann drop", "1"))
        self.said(room, ("bob line", "0"), ("bob drop", "0"), ("bob hears ann", "2"), ("cy hears ann", "2"), ("bob same ann", "yes"), ("bob drop", "1"), ("cy line", "1"), ("cy drop", "1"))
        self.said(room, ("ann shows /", '{"a":1,"b":2,"c":3}'), ("ann same cy", "yes"), ("ann put / a leaf 9", "3.ann 2 put 0. a leaf 9"), ("bob hears ann", "1"), ("bob shows /a", "9"))
        self.refused(room, "ann undo 1.ann", "Unknown", stamp=(1, "ann"))
        self.refused(room, "cy undo 1.cy", "Unknown", stamp=(1, "cy"))

    def test_settled(self):
        room = room_of("ann put / a leaf 1", "bob hears ann", "bob put / b leaf 2", "bob seen", "ann hears bob", names=["ann", "bob"])
        self.assertEqual(room.say("ann seen"), "4.ann 1 seen 1")
        error = refusal(room.say, "ann undo 1.ann")
        self.assertEqual((type(error).__name__, vars(error)), ("Settled", {"stamp": (1, "ann")}))
        self.assertEqual(type(refusal(room.say, "ann undo")).__name__, "Nothing")
        self.assertEqual(room.say("ann undo 2.bob"), "5.ann 4 undo 2.bob")

    def test_same_is_told_by_texts(self):
        room = room_of("ann put / a leaf 1", "bob put / a leaf yes", "cy put / a leaf 1")
        self.said(room, ("ann same bob", "no"), ("ann same cy", "yes"), ("bob same cy", "no"), ("ann same ann", "yes"))
        room = room_of("ann put / a leaf 0", "bob put / a leaf no", "cy put / b text", "cy take /b")
        self.said(room, ("ann same bob", "no"), ("bob same ann", "no"), ("cy same ann", "no"))

    def test_one_hears_itself(self):
        room = room_of(*SCENE)
        self.said(room, ("ann hears ann", "0"), ("ann same ann", "yes"))

    def test_what_a_third_one_told_is_handed_on(self):
        room = room_of("ann put / a list", "bob hears ann", "bob put /a 0 leaf 1")
        self.said(room, ("cy hears bob", "2"), ("cy shows /", '{"a":[1]}'), ("cy hears ann", "0"), ("ann hears cy", "1"), ("ann same cy", "yes"), ("ann waits", "0"))

    def test_a_hundred_and_twenty_deeds(self):
        room = room_of("ann put / t text", names=["ann", "bob"])
        self.said(room, ("ann write /t end " + "x" * 59, "59"), ("bob hears ann", "60"), ("bob erase /t 0 30", "30"), ("ann erase /t 0 29", "29"), ("bob hears ann", "29"), ("ann hears bob", "30"))
        self.said(room, ("ann shows /t", '"' + "x" * 29 + '"'), ("ann same bob", "yes"), ("ann seen", "91.ann 89 seen 89"))
        room = room_of(names=["ann"])
        path = ""
        for at in range(119):
            self.assertEqual(room.say(f"ann put {path or '/'} a object"), f"{at + 1}.ann {at} put {f'{at}.ann' if at else '0.'} a object")
            path += "/a"
        self.said(room, (f"ann put {path} a leaf 1", "120.ann 119 put 119.ann a leaf 1"), ("ann shows /", '{"a":' * 120 + "1" + "}" * 120), (f"ann shows {path}/a", "1"))


class NoRows(Rooms):
    RIGHT = [
        "ann put / a leaf 1", "ann give / a leaf 1", "ann move /o /o/l 0", "ann undo 1.ann", "ann take /v", "ann erase /o/l 0 1", "ann hears bob", "ann shows /o", "ann same bob",
        "ann undo", "ann again", "ann seen", "ann drop", "ann line", "ann waits",
    ]

    def test_things_that_are_no_texts(self):
        room = room_of(*SCENE)
        ahead = state(room)
        for thing in (*ANYTHING, Sour(), Sweet(), HUGE, ["ann drop"], ("ann", "drop"), b"ann drop"):
            self.no_row(room, thing)
        self.assertEqual(state(room), ahead)

    def test_other_texts(self):
        room = room_of(*SCENE)
        ahead = state(room)
        for row in ("", " ", "  ", "ann", "ann ", " ann", "drop", "ann says", "ann Drop", "ann drops", "put", "ann name", "ann undo\n", "\n", "ann\ndrop", "ann\tdrop", "ann put", "ann log"):
            self.no_row(room, row)
        self.assertEqual(state(room), ahead)

    def test_blanks(self):
        room = room_of(*SCENE)
        ahead = state(room)
        for row in self.RIGHT:
            for other in (" " + row, row + " ", *[row[:at] + " " + row[at:] for at in range(len(row)) if row[at] == " "]):
                self.no_row(room, other)
            self.no_row(room, row + "\n")
        for row in (" ann write /o/t 0 x", "ann  write /o/t 0 x", "ann write  /o/t 0 x", "ann write /o/t  0 x"):
            self.no_row(room, row)
        self.assertEqual(state(room), ahead)

    def test_words_too_many_and_too_few(self):
        room = room_of(*SCENE)
        ahead = state(room)
        for row in self.RIGHT:
            for more in ("x", "/", "0", "bob", "end", "1.ann"):
                if row != "ann undo" or more != "1.ann":
                    self.no_row(room, f"{row} {more}")
            words = row.split(" ")
            for at in range(len(words)):
                fewer = " ".join(words[:at] + words[at + 1:])
                if fewer != "ann undo":
                    self.no_row(room, fewer)
        self.assertEqual(state(room), ahead)

    def test_paths(self):
        room = room_of(*SCENE)
        for path in (
            "", "o", "o/l", "//", "/o/", "//o", "/o//l", "/O", "/o.l", "/o/-1", "/o/01", "/o/00", "/o/+1", "/o/1a", "/_", "/o/_a", "/abcdefghijklm", f"/o/l/{THIRTY_ONE}", "/o/l/1.0", "/o/\n", "/\n",
            "[]", "/o/l/\u0661", "/o/ l",
        ):
            for row in (f"ann shows {path}", f"ann take {path}", f"ann put {path} a leaf 1", f"ann move {path} / a", f"ann move /v {path} a", f"ann give {path} a leaf 1", f"ann write {path} 0 x", f"ann erase {path} 0 1"):
                self.no_row(room, row)

    def test_places_fields_and_numbers(self):
        room = room_of(*SCENE)
        for word in ("-1", "01", "00", "+1", "A", "_a", "abcdefghijklm", THIRTY_ONE, "1.ann", "0.", "END", "/", "a/b", "1a", "", "None", "\u00b2"):
            for row in (f"ann put /o/l {word} leaf 1", f"ann move /v /o/l {word}", f"ann write /o/t {word} x", f"ann erase /o/t {word} 1", f"ann erase /o/t 0 {word}", f"ann give / {word} leaf 1"):
                self.no_row(room, row)
        for word in ("0", "7", THIRTY):
            self.no_row(room, f"ann give / {word} leaf 1")
        for word in ("a", "end", "none"):
            self.no_row(room, f"ann erase /o/t 0 {word}")

    def test_whats(self):
        room = room_of(*SCENE)
        for what in (
            "", "Object", "objects", "object ", "object x", "list 1", "leaf", "leaf ", "leaf  1", "leaf 01", "leaf -0", "leaf +1", "leaf None", "leaf true", "leaf null", f"leaf {THIRTY_ONE}",
            f"leaf -{THIRTY_ONE}", "leaf 1 ", "leaf 1.0", "leaf x", "leaf yes no", "number 1", "sign", "sign ", "sign ab", '("list",)', "leaf 1\n",
        ):
            self.no_row(room, f"ann put / a {what}")
            self.no_row(room, f"ann give / a {what}")

    def test_stamps(self):
        room = room_of(*SCENE)
        for text in ("0.", "0.ann", "1", "1.", ".ann", "ann", "1.Ann", "01.ann", "-1.ann", "1.ann.", "1.abcdefghi", "1000000000000000.ann", "1.ann 2.ann", "1 ann", "+1.ann", "/"):
            self.no_row(room, f"ann undo {text}")

    def test_names_that_are_no_names(self):
        room = room_of(*SCENE)
        for name in ("Ann", "abcdefghi", "a1", "a_b", "", "1", "ann.", "\u00e4nn"):
            for row in self.RIGHT:
                self.no_row(room, name + row[3:])
            self.no_row(room, f"ann hears {name}")
            self.no_row(room, f"ann same {name}")
            self.no_row(room, f"zoe hears {name}")
            self.no_row(room, f"{name} hears zoe")


class Strangers(Rooms):
    def test_names_that_are_not_the_rooms(self):
        room = room_of(*SCENE)
        for row in NoRows.RIGHT:
            self.refused(room, "zoe" + row[3:], "Stranger", who="zoe")
        self.refused(room, "zoe write /o/t 0 x", "Stranger", who="zoe")

    def test_from_the_left(self):
        room = room_of(*SCENE)
        for word in ("hears", "same"):
            self.refused(room, f"ann {word} zoe", "Stranger", who="zoe")
            self.refused(room, f"zoe {word} ann", "Stranger", who="zoe")
            self.refused(room, f"zoe {word} yan", "Stranger", who="zoe")
            self.refused(room, f"yan {word} zoe", "Stranger", who="yan")

    def test_ahead_of_all_else(self):
        room = room_of(*SCENE)
        self.refused(room, "zoe shows /x/y", "Stranger", who="zoe")
        self.refused(room, "zoe put /v 9 sign x", "Stranger", who="zoe")
        self.refused(room, "zoe undo 99.zoe", "Stranger", who="zoe")

    def test_no_row_goes_ahead(self):
        room = room_of(*SCENE)
        for row in ("zoe", "zoe says", "zoe shows x", "zoe put / a sign", "zoe hears", "zoe hears Ann", "Zoe hears zoe"):
            self.no_row(room, row)


class Apart(Rooms):
    def test_two_rooms(self):
        names = list(NAMES)
        one, other = Room(names), Room(names)
        one.say("ann put / a leaf 1")
        self.assertEqual(other.say("ann shows /"), "{}")
        self.assertEqual(other.say("bob hears ann"), "0")
        other.say("ann put / b leaf 2")
        self.assertEqual([one.say("ann shows /"), other.say("ann shows /")], ['{"a":1}', '{"b":2}'])
        self.assertEqual(names, NAMES)

    def test_the_names_are_its_own(self):
        names = ["ann", "bob"]
        room = Room(names)
        names.append("cy")
        names.remove("ann")
        self.assertEqual(room.say("ann put / a leaf 1"), "1.ann 0 put 0. a leaf 1")
        self.assertEqual(vars(refusal(room.say, "cy drop")), {"who": "cy"})
        self.assertEqual(room.say("bob hears ann"), "1")
        room.say("ann seen")
        room.say("bob seen")
        self.assertEqual(room.say("ann hears bob"), "1")

    def test_rooms_of_one_and_of_six(self):
        room = room_of("a put / x leaf 1", names=["a"])
        self.assertEqual([room.say("a seen"), room.say("a drop"), room.say("a shows /")], ["2.a 1 seen 1", "1", '{"x":1}'])
        names = ["f", "e", "d", "c", "b", "abcdefgh"]
        room = room_of("f put / x leaf 1", names=names)
        for one, other in zip(names, names[1:]):
            self.assertEqual(room.say(f"{other} hears {one}"), "1")
        self.assertEqual(room.say("abcdefgh shows /"), '{"x":1}')

    def test_asked_again_the_same_is_told(self):
        room = room_of(*SCENE, "bob hears ann")
        self.assertEqual([state(room) for _ in range(2)], [state(room)] * 2)


def row_of(name, word, places, names):
    """The row that says a call; None where none does."""
    def path(steps):
        return "".join(f"/{step}" for step in steps) or "/"

    def place(one):
        return "end" if one == END else str(one)

    def what(one):
        return deed_text(((1, "a"), 0, ("put", (0, ""), "a", one)))[len("1.a 0 put 0. a "):]

    if word == "put":
        return f"{name} put {path(places[0])} {place(names['place'])} {what(places[1])}"
    if word == "write":
        return f"{name} write {path(places[0])} {place(names['place'])} {places[1]}"
    if word == "give":
        return f"{name} give {path(places[0])} {places[1]} {what(places[2])}"
    if word == "move":
        return f"{name} move {path(places[0])} {path(places[1])} {place(names['place'])}"
    if word == "take":
        return f"{name} take {path(places[0])}"
    if word == "erase":
        return f"{name} erase {path(places[0])} {names['place']} {names['many']}"
    if word == "undo" and places[0] is not None:
        return f"{name} undo {stamp_text(places[0])}"
    return f"{name} {word}"


class Drawn(unittest.TestCase):
    """A room beside keepers that are called likewise, and beside copies that never drop, over rows drawn by lot."""

    def answer(self, call, form, *places, **names):
        try:
            return form(call(*places, **names))
        except HeardError as error:
            return (type(error).__name__, vars(error))

    def said(self, room, row):
        return self.answer(room.say, str, row)

    def form(self, word):
        """How what a call tells is answered."""
        if word in ("write", "take", "erase"):
            return lambda deeds: str(len(deeds))
        return lambda made: deed_text(made[-1] if isinstance(made, list) else made)

    def edited(self, calls, room, pair):
        name = pair.copy.name()
        word, places, names = calls.call(pair.copy, [deed[0] for deed in pair.copy.stands()])
        # What is END for an object is a FIELD in a row.
        if names.get("place") == END and word != "erase":
            led = pair.copy.at(places[1] if word == "move" else places[0])
            named = {**names, "place": "end" if isinstance(led, dict) else END}
        else:
            named = names
        told = self.answer(getattr(pair.keeper, word), self.form(word), *places, **named)
        self.assertEqual(self.said(room, row_of(name, word, places, names)), told)
        self.answer(getattr(pair.copy, word), self.form(word), *places, **named)

    def heard(self, room, one, other):
        told = str(len(one.keeper.hear_all(other.keeper.news(one.keeper.counts()))))
        one.copy.hear_all(other.copy.news(one.copy.counts()))
        self.assertEqual(room.say(f"{one.copy.name()} hears {other.copy.name()}"), told)

    def asked(self, room, one, other):
        name = one.copy.name()
        self.assertEqual(room.say(f"{name} shows /"), value_text(one.copy.shown()))
        self.assertEqual(room.say(f"{name} shows /"), value_text(one.keeper.shown()))
        self.assertEqual(room.say(f"{name} line"), str(one.line()))
        self.assertEqual(room.say(f"{name} waits"), "0")
        alike = value_text(one.copy.shown()) == value_text(other.copy.shown())
        self.assertEqual(room.say(f"{name} same {other.copy.name()}"), "yes" if alike else "no")
        self.assertTrue(alike or one.copy.news(other.copy.counts()) or other.copy.news(one.copy.counts()))

    def play(self, seed, names):
        calls = Calls(seed)
        room, pairs = Room(names), [Pair(name, names) for name in names]
        while len({deed[0] for pair in pairs for deed in pair.copy.deeds()}) < 60:
            one, other = calls.any_of(*pairs), calls.any_of(*pairs)
            self.edited(calls, room, one)
            if calls.lot.random() < 0.5:
                self.heard(room, one, other)
            if calls.lot.random() < 0.3:
                self.assertEqual(room.say(f"{other.copy.name()} drop"), str(other.keeper.drop()))
            self.asked(room, one, other)
            self.asked(room, other, one)
        return sum(pair.keeper.ground()[0] > 0 for pair in pairs)

    def test_two(self):
        self.assertGreater(sum(self.play(seed, ["bob", "ann"]) for seed in range(12)), 10)

    def test_three(self):
        self.assertGreater(sum(self.play(seed, ["ann", "bob", "cy"]) for seed in range(300, 308)), 5)


class Interface(unittest.TestCase):
    def test_it_stands_in_the_class(self):
        self.assertEqual(Room.__module__, "heardalike.rooms")
        self.assertEqual(str(inspect.signature(rooms.Room)), "(names)")
        self.assertIn("say", vars(Room))
        self.assertEqual(str(inspect.signature(Room.say)), "(self, row)")
        self.assertEqual(Room(names=["ann"]).say(row="ann shows /"), "{}")

    def test_its_keepers_are_among_its_names(self):
        room = room_of("ann put / a leaf 1", names=["ann", "bob"])
        one, other = Keeper("ann", among=["ann", "bob"]), Keeper("bob", among=["ann", "bob"])
        one.put([], ("leaf", 1), place="a")
        other.hear_all(one.news({}))
        self.assertEqual(room.say("bob hears ann"), "1")
        for row, call in (("bob seen", other.seen), ("ann seen", one.seen)):
            self.assertEqual(room.say(row), deed_text(call()))


if __name__ == "__main__":
    unittest.main()
