"""Point 8, and the last sentence of 7: deeds as texts."""

import inspect
import re
import unittest

from heardalike import deedtexts
from heardalike.deeds import is_deed
from heardalike.deedtexts import deed_of, deed_text
from heardalike.errors import HeardError, NoDeed
from heardalike.stamps import ROOT
from tests.things import ANYTHING, HUGE, Sour, Sweet, deep_tuple, ring_list

ANN = (3, "ann")
GREAT = 10 ** 15 - 1

PAIRS = [
    ("7.bob 4 put 3.ann 0. sign x", ((7, "bob"), 4, ("put", ANN, ROOT, ("sign", "x")))),
    ("8.ann 7 move 3.ann 0. title", ((8, "ann"), 7, ("move", ANN, ROOT, "title"))),
    ("1.a 0 put 0. a object", ((1, "a"), 0, ("put", ROOT, "a", ("object",)))),
    ("7.bob 0 put 0. a1_ list", ((7, "bob"), 0, ("put", ROOT, "a1_", ("list",)))),
    ("7.bob 6 put 0. abcdefghijkl text", ((7, "bob"), 6, ("put", ROOT, "abcdefghijkl", ("text",)))),
    ("7.bob 4 put 0. 0. text", ((7, "bob"), 4, ("put", ROOT, ROOT, ("text",)))),
    ("7.bob 4 put 0. 5.cy list", ((7, "bob"), 4, ("put", ROOT, (5, "cy"), ("list",)))),
    ("7.bob 4 put 3.ann a object", ((7, "bob"), 4, ("put", ANN, "a", ("object",)))),
    ("7.bob 4 put 3.ann 3.ann leaf none", ((7, "bob"), 4, ("put", ANN, ANN, ("leaf", None)))),
    ("7.bob 4 put 3.ann 5.cy leaf yes", ((7, "bob"), 4, ("put", ANN, (5, "cy"), ("leaf", True)))),
    ("7.bob 4 put 3.ann 5.cy leaf no", ((7, "bob"), 4, ("put", ANN, (5, "cy"), ("leaf", False)))),
    ("7.bob 4 put 3.ann 5.cy leaf 1", ((7, "bob"), 4, ("put", ANN, (5, "cy"), ("leaf", 1)))),
    ("7.bob 4 put 3.ann 5.cy leaf 0", ((7, "bob"), 4, ("put", ANN, (5, "cy"), ("leaf", 0)))),
    ("7.bob 4 put 0. a leaf -1", ((7, "bob"), 4, ("put", ROOT, "a", ("leaf", -1)))),
    ("7.bob 4 put 0. none leaf -120", ((7, "bob"), 4, ("put", ROOT, "none", ("leaf", -120)))),
    ("7.bob 4 put 0. a leaf " + "9" * 30, ((7, "bob"), 4, ("put", ROOT, "a", ("leaf", 10 ** 30 - 1)))),
    ("7.bob 4 put 0. a leaf -" + "9" * 30, ((7, "bob"), 4, ("put", ROOT, "a", ("leaf", 1 - 10 ** 30)))),
    ("7.bob 4 put 3.ann 5.cy sign  ", ((7, "bob"), 4, ("put", ANN, (5, "cy"), ("sign", " ")))),
    ("7.bob 4 put 3.ann 5.cy sign .", ((7, "bob"), 4, ("put", ANN, (5, "cy"), ("sign", ".")))),
    ("7.bob 4 put 3.ann 5.cy sign 0", ((7, "bob"), 4, ("put", ANN, (5, "cy"), ("sign", "0")))),
    ("7.bob 4 put 3.ann sign sign -", ((7, "bob"), 4, ("put", ANN, "sign", ("sign", "-")))),
    ("8.ann 7 move 3.ann 5.cy put", ((8, "ann"), 7, ("move", ANN, (5, "cy"), "put"))),
    ("8.ann 7 move 3.ann 5.cy 0.", ((8, "ann"), 7, ("move", ANN, (5, "cy"), ROOT))),
    ("8.ann 0 move 3.ann 3.ann 3.ann", ((8, "ann"), 0, ("move", ANN, ANN, ANN))),
    ("8.ann 7 move 3.ann 0. 5.cy", ((8, "ann"), 7, ("move", ANN, ROOT, (5, "cy")))),
    ("8.ann 7 move 3.ann 0. 0.", ((8, "ann"), 7, ("move", ANN, ROOT, ROOT))),
    ("8.ann 7 take 3.ann", ((8, "ann"), 7, ("take", ANN))),
    ("8.ann 0 take 8.an", ((8, "ann"), 0, ("take", (8, "an")))),
    ("8.ann 7 undo 3.ann", ((8, "ann"), 7, ("undo", ANN))),
    ("8.ann 7 seen 0", ((8, "ann"), 7, ("seen", 0))),
    ("8.ann 7 seen 7", ((8, "ann"), 7, ("seen", 7))),
    ("10.zzzzzzzz 9 seen 9", ((10, "zzzzzzzz"), 9, ("seen", 9))),
    ("999999999999999.ann 999999999999998 seen 999999999999998", ((GREAT, "ann"), GREAT - 1, ("seen", GREAT - 1))),
    ("999999999999999.b 0 undo 999999999999999.a", ((GREAT, "b"), 0, ("undo", (GREAT, "a")))),
]

# What the document says of texts, once more and by patterns.
NUMBER = r"(?:0|[1-9][0-9]{0,14})"
STAMP = r"[1-9][0-9]{0,14}\.[a-z]{1,8}"
FIELD = r"[a-z][a-z0-9_]{0,11}"
PARENT = rf"(?:0\.|{STAMP})"
PLACE = rf"(?:{FIELD}|0\.|{STAMP})"
WHAT = r"(?:object|list|text|sign [ -$&-~]|leaf (?:none|yes|no|0|-?[1-9][0-9]{0,29}))"
DEED = re.compile(
    rf"({STAMP}) ({NUMBER}) (?:put {PARENT} {PLACE} {WHAT}|move {STAMP} {PARENT} {PLACE}|(?:take|undo) {STAMP}|seen ({NUMBER}))"
)


def is_text_of_deed(text):
    """Whether a text is that of a deed, by the patterns."""
    found = DEED.fullmatch(text)
    if not found:
        return False
    own, before, upto = found.groups()
    words = re.sub(r" (sign|leaf) .+\Z", "", text).split(" ")[2:]
    named = [stamp_read(word) for word in words if re.fullmatch(STAMP, word)]
    count = stamp_read(own)[0]
    return int(before) < count and (upto is None or int(upto) < count) and all(one < stamp_read(own) for one in named)


def stamp_read(word):
    return (int(word.split(".")[0]), word.split(".")[1])


class Reading(unittest.TestCase):
    def refused(self, thing):
        with self.assertRaises(HeardError) as caught:
            deed_of(thing)
        self.assertIs(type(caught.exception), NoDeed)

    def held(self, text):
        """The text is read, or refused, as the patterns say."""
        if is_text_of_deed(text):
            deed = deed_of(text)
            self.assertIs(is_deed(deed), True)
            self.assertEqual(deed_text(deed), text)
        else:
            with self.assertRaises(NoDeed, msg=text):
                deed_of(text)


class Texts(Reading):
    def test_written_and_read(self):
        for text, deed in PAIRS:
            self.assertEqual(deed_text(deed), text)
            # repr tells True from 1, and False from 0.
            self.assertEqual(repr(deed_of(text)), repr(deed))
            self.assertTrue(is_text_of_deed(text), text)
            self.assertIs(is_deed(deed), True)

    def test_the_kinds_of_what_is_told(self):
        for text, deed in PAIRS:
            self.assertIs(type(deed_text(deed)), str)
            self.assertIs(type(deed_of(text)), tuple)

    def test_each_sign(self):
        for code in range(32, 127):
            text = "7.bob 4 put 3.ann 0. sign " + chr(code)
            if code == 37:
                self.refused(text)
            else:
                deed = ((7, "bob"), 4, ("put", ANN, ROOT, ("sign", chr(code))))
                self.assertEqual(deed_text(deed), text)
                self.assertEqual(deed_of(text), deed)

    def test_truths_and_numbers_are_apart(self):
        texts = [deed_text(((7, "bob"), 4, ("put", ROOT, "a", ("leaf", v)))) for v in (True, 1, False, 0, None)]
        self.assertEqual(len(set(texts)), 5)
        leaves = [deed_of(text)[2][3][1] for text in texts]
        self.assertEqual([repr(leaf) for leaf in leaves], ["True", "1", "False", "0", "None"])

    def test_numbers_at_their_edges(self):
        for number in (0, 1, -1, 9, 10, -10, 10 ** 29, -(10 ** 29), 10 ** 30 - 1, 1 - 10 ** 30):
            deed = ((7, "bob"), 4, ("put", ROOT, "a", ("leaf", number)))
            self.assertEqual(deed_text(deed), "7.bob 4 put 0. a leaf " + str(number))
            self.assertEqual(repr(deed_of(deed_text(deed))), repr(deed))


class Refused(Reading):
    def test_one_sign_put_in(self):
        for text, _ in PAIRS:
            for at in range(len(text) + 1):
                for sign in " .0129abzA_-+\n%":
                    self.held(text[:at] + sign + text[at:])

    def test_one_sign_set_for_another(self):
        for text, _ in PAIRS:
            for at in range(len(text)):
                for sign in " .0129abzA_-+\n%":
                    self.held(text[:at] + sign + text[at + 1:])

    def test_one_sign_left_out(self):
        for text, _ in PAIRS:
            for at in range(len(text)):
                self.held(text[:at] + text[at + 1:])

    def test_each_word_left_out_said_twice_and_exchanged(self):
        for text, _ in PAIRS:
            words = text.split(" ")
            for at in range(len(words)):
                self.held(" ".join(words[:at] + words[at + 1:]))
                self.held(" ".join(words[:at + 1] + words[at:]))
                for to in range(at):
                    other = list(words)
                    other[at], other[to] = other[to], other[at]
                    self.held(" ".join(other))
            for count in range(len(words)):
                self.held(" ".join(words[:count]))
            for more in ("a", "0", "0.", "1.ann", "x", "list", "", " "):
                self.held(text + " " + more)

    def test_blanks_and_line_feeds(self):
        for text, _ in PAIRS:
            for other in (" " + text, text + " ", text + "\n", "\n" + text, "\t" + text, text + "\t", text.replace(" ", "  ")):
                self.refused(other)
            self.refused(text.replace(" ", "\n"))
            self.refused(text.replace(" ", "\t"))
            self.refused(text.replace(" ", "\u00a0"))
            self.refused(text.replace(" ", "", 1))
            self.refused(text + "\n" + text)

    def test_signs_of_no_and_of_two_signs(self):
        for sign in ("", "xy", "  ", "x ", " x", "\n", "\t", "\u00e4", "\x7f", "%", "\ud800"):
            self.refused("7.bob 4 put 3.ann 0. sign " + sign)
        self.refused("7.bob 4 put 3.ann 0. sign")

    def test_numbers_in_other_forms(self):
        for number in (
            "-0", "+0", "+1", "00", "01", "007", "-01", "--1", "1-", "-", "", "1.", "1.0", ".5", "1e3", "0x1", "1_0", " 1", "1 ",
            "\u0661", "\uff11", "\u00b2", "\u00bd", "-\u0661", "true", "True", "None", "Yes", "NO", "nan", "inf", "nul", "y", "n",
            "1" + "0" * 30, "-1" + "0" * 30, "0" * 31, "9" * 4300, "9" * 5000, "-" + "9" * 5000,
        ):
            self.refused("7.bob 4 put 0. a leaf " + number)

    def test_counts_in_other_forms(self):
        for count in (
            "", "0", "00", "07", "+7", "-7", "-0", "7.", "7.0", "7_0", " 7", "\u0667", "\uff17", "x", "9" * 16, "1" + "0" * 15, "9" * 5000,
        ):
            self.refused(count + ".bob 0 seen 0")
            self.refused("999999999999999.zoe 0 take " + count + ".bob")
        for number in ("", "04", "+4", "-0", "-4", "4.", "4.0", "4_0", "\u0664", "x", "none", "no", "9" * 16, "9" * 5000):
            self.refused("999999999999999.zoe " + number + " seen 0")
            self.refused("999999999999999.zoe 0 seen " + number)

    def test_fifteen_figures_and_sixteen(self):
        self.assertEqual(deed_of("100000000000000.ann 0 seen 0"), ((10 ** 14, "ann"), 0, ("seen", 0)))
        self.assertEqual(deed_of("999999999999999.ann 0 seen 0"), ((GREAT, "ann"), 0, ("seen", 0)))
        self.refused("1000000000000000.ann 0 seen 0")
        self.refused("9999999999999999.ann 0 seen 0")

    def test_other_names_and_fields(self):
        for name in ("", "Bob", "BOB", "b ob", "b1", "b_", "abcdefghi", "b.b", ".", "\u00e4", "bob.", "-bob"):
            self.refused("7." + name + " 4 seen 0")
            self.refused("9.zoe 4 take 7." + name)
        for field in ("", "A", "Title", "1a", "_a", "a-b", "abcdefghijklm", "\u00e4", "a%", "-", "7", "7ann"):
            self.refused("7.bob 4 put 0. " + field + " list")
            self.refused("7.bob 4 move 3.ann 0. " + field)

    def test_root_in_other_forms(self):
        for root in ("0", ".", "00.", "-0.", "+0.", "0..", "0.a", "", "root", "0. ", "1."):
            self.refused("7.bob 4 put " + root + " a list")
            if root != "root":
                self.refused("7.bob 4 put 3.ann " + root + " list")
        for text in ("0. 0 seen 0", "7.bob 4 take 0.", "7.bob 4 undo 0.", "7.bob 4 move 0. 0. a"):
            self.refused(text)

    def test_great_letters_and_other_words(self):
        for text, _ in PAIRS:
            if text.upper() != text:
                self.refused(text.upper())
        for word in ("Put", "PUT", "puts", "", "pu", "again", "drop", "object", "0"):
            self.refused("7.bob 4 " + word + " 3.ann 0. sign x")
            self.refused("7.bob 4 " + word + " 3.ann")
        for what in ("Object", "objects", "dict", "", "sign", "leaf", "leaf ", "object x", "list 1", "text ", "none", "yes", "5"):
            self.refused("7.bob 4 put 0. a " + what)

    def test_stamps_that_are_not_less(self):
        for stamp in ("7.bob", "7.bobo", "7.cy", "8.a", "8.bob", "999999999999999.ann"):
            for words in ("put {} a list", "put 0. {} list", "move {} 0. a", "move 3.ann {} a", "move 3.ann 0. {}", "take {}", "undo {}"):
                self.refused("7.bob 4 " + words.format(stamp))
        for stamp in ("7.boa", "7.bo", "7.ann", "6.zoe", "1.a"):
            for words in ("put {} a list", "put 0. {} list", "move {} 0. a", "move 3.ann {} a", "move 3.ann 0. {}", "take {}", "undo {}"):
                self.held("7.bob 4 " + words.format(stamp))
                self.assertEqual(deed_text(deed_of("7.bob 4 " + words.format(stamp))), "7.bob 4 " + words.format(stamp))

    def test_before_and_upto_that_are_not_less(self):
        for number in ("7", "8", "10"):
            self.refused("7.bob " + number + " seen 0")
            self.refused("7.bob 0 seen " + number)
        self.assertEqual(deed_of("7.bob 6 seen 6"), ((7, "bob"), 6, ("seen", 6)))

    def test_no_texts(self):
        for thing in (*ANYTHING, Sour(), Sweet(), deep_tuple(), ring_list(), HUGE):
            self.refused(thing)
        for text, deed in PAIRS:
            for thing in (text.encode(), bytearray(text.encode()), [text], (text,), list(text), {text: 1}, deed, text.split(" ")):
                self.refused(thing)

    def test_other_texts(self):
        for text in ("", " ", "  ", "\n", "7.bob", "7.bob 4", "7.bob 4 ", "put", "7.bob 4 put", "7.bob 4 seen", "x" * 5000, " " * 50):
            self.refused(text)


class Handing(unittest.TestCase):
    def test_asked_again_the_same_is_told(self):
        for text, deed in PAIRS:
            self.assertEqual([deed_text(deed) for _ in range(3)], [text] * 3)
            self.assertEqual(repr([deed_of(text) for _ in range(3)]), repr([deed] * 3))

    def test_arguments_by_their_names(self):
        text, deed = PAIRS[0]
        self.assertEqual(deed_text(deed=deed), text)
        self.assertEqual(deed_of(text=text), deed)

    def test_the_interface(self):
        for name, parameters in (("deed_text", ["deed"]), ("deed_of", ["text"])):
            told = getattr(deedtexts, name)
            self.assertEqual(told.__module__, "heardalike.deedtexts")
            self.assertEqual(list(inspect.signature(told).parameters), parameters)


if __name__ == "__main__":
    unittest.main()
