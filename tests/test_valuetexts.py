"""Point 23."""

import inspect
import json
import random
import unittest

from heardalike import valuetexts
from heardalike.shows import shown
from heardalike.stamps import ROOT
from heardalike.valuetexts import value_text
from tests.sets import drawn, row_of
from tests.values import strict

SIGNS = [chr(at) for at in range(32, 127) if chr(at) != "%"]


class Texts(unittest.TestCase):
    def written(self, value, text):
        kept = strict(value)
        self.assertEqual(value_text(value), text)
        self.assertIs(type(value_text(value)), str)
        self.assertEqual(strict(value), kept)

    def test_what_holds_nothing(self):
        self.written({}, "{}")
        self.written([], "[]")
        self.written("", '""')

    def test_truths_numbers_and_none(self):
        self.written(None, "null")
        self.written(True, "true")
        self.written(False, "false")
        self.written(0, "0")
        self.written(1, "1")
        self.written(-1, "-1")
        self.written([None, True, False, 0, 1], "[null,true,false,0,1]")
        self.written([1, True, 0, False, None], "[1,true,0,false,null]")
        self.written({"a": 1, "b": True, "c": 0, "d": False}, '{"a":1,"b":true,"c":0,"d":false}')

    def test_numbers_of_thirty_figures(self):
        self.written(10 ** 30 - 1, "9" * 30)
        self.written(1 - 10 ** 30, "-" + "9" * 30)
        self.written([10 ** 29], "[1" + "0" * 29 + "]")

    def test_texts(self):
        self.written("abc", '"abc"')
        self.written(" ", '" "')
        self.written("a b,c:{}[]", '"a b,c:{}[]"')
        self.written("null", '"null"')
        self.written("7", '"7"')
        self.written("/'`~", '"/\'`~"')

    def test_quotes_and_backslashes(self):
        self.written('"', '"\\""')
        self.written("\\", '"\\\\"')
        self.written('"\\', '"\\"\\\\"')
        self.written('\\"', '"\\\\\\""')
        self.written('\\\\""', '"\\\\\\\\\\"\\""')
        self.written('a"b\\c', '"a\\"b\\\\c"')
        self.written(["\\", '"'], '["\\\\","\\""]')
        self.written({"a": '"', "b": ["\\"]}, '{"a":"\\"","b":["\\\\"]}')

    def test_each_sign(self):
        for sign in SIGNS:
            plain = sign if sign not in '"\\' else "\\" + sign
            self.written(sign, f'"{plain}"')
            self.written(sign + sign, f'"{plain}{plain}"')

    def test_lists(self):
        self.written([1], "[1]")
        self.written([1, 2, 3], "[1,2,3]")
        self.written([[], [[]], {}, ""], '[[],[[]],{},""]')
        self.written([[1, 2], [3]], "[[1,2],[3]]")
        self.written(["a", "b"], '["a","b"]')

    def test_the_fields_of_a_dict_rise(self):
        self.written({"a": 1}, '{"a":1}')
        self.written({"b": 1, "a": 2}, '{"a":2,"b":1}')
        self.written({"a_": 1, "ab": 2, "a1": 3, "a": 4, "z": 5, "b": 6}, '{"a":4,"a1":3,"a_":1,"ab":2,"b":6,"z":5}')
        self.written({"a10": 1, "a9": 2, "a2": 3}, '{"a10":1,"a2":3,"a9":2}')
        self.written({"b": {"d": [], "c": {}}, "a": [{"f": 1, "e": 2}]}, '{"a":[{"e":2,"f":1}],"b":{"c":{},"d":[]}}')

    def test_what_is_shown(self):
        self.written({"l": [{"z": None}, 3, "xy", [True]], "e": {}, "v": -9}, '{"e":{},"l":[{"z":null},3,"xy",[true]],"v":-9}')

    def test_a_hundred_holders_each_in_the_one_ahead(self):
        for many in (100, 120, 300):
            one, other = [], {}
            for _ in range(many):
                one, other = [one], {"a": other}
            self.assertEqual(value_text(one), "[" * (many + 1) + "]" * (many + 1))
            self.assertEqual(value_text(other), '{"a":' * many + "{}" + "}" * many)
        deeds = row_of("ann", [("put", ROOT, "a", ("list",))] + [("put", (at, "ann"), ROOT, ("list",)) for at in range(1, 120)])
        self.assertEqual(value_text(shown(deeds)), '{"a":' + "[" * 120 + "]" * 120 + "}")

    def test_a_hundred_side_by_side(self):
        self.written(list(range(120)), "[" + ",".join(str(at) for at in range(120)) + "]")
        self.written({f"a{at:03}": at for at in reversed(range(120))}, "{" + ",".join(f'"a{at:03}":{at}' for at in range(120)) + "}")


class Drawn(unittest.TestCase):
    def value(self, lot, depth):
        kind = lot.randrange(7 if depth else 4)
        if kind < 2:
            return lot.choice([None, True, False, 0, 1, lot.randrange(-10 ** 30 + 1, 10 ** 30)])
        if kind < 4:
            return "".join(lot.choice([*SIGNS, '"', "\\"]) for _ in range(lot.randrange(6)))
        inner = [self.value(lot, depth - 1) for _ in range(lot.randrange(4))]
        return inner if kind < 6 else {lot.choice("abcdefg") + lot.choice("_09a"): one for one in inner}

    def test_as_another_writer_writes(self):
        lot = random.Random(23)
        for _ in range(800):
            value = self.value(lot, 4)
            text = value_text(value)
            self.assertEqual(text, json.dumps(value, separators=(",", ":"), sort_keys=True))
            self.assertEqual(strict(json.loads(text)), strict(value))

    def test_what_is_shown_of_drawn_sets(self):
        for seed in range(20):
            value = shown(drawn(seed))
            self.assertEqual(value_text(value), json.dumps(value, separators=(",", ":"), sort_keys=True))
            self.assertEqual(value_text(value), value_text(shown(drawn(seed))))


class Interface(unittest.TestCase):
    def test_its_argument(self):
        self.assertEqual(value_text.__module__, "heardalike.valuetexts")
        self.assertEqual(str(inspect.signature(valuetexts.value_text)), "(value)")
        self.assertEqual(value_text(value=[1]), "[1]")


if __name__ == "__main__":
    unittest.main()
