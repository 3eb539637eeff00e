"""Keepers, each beside a copy that never drops and is called likewise; and calls drawn by lot."""

import random

from heardalike.copies import Copy
from heardalike.edits import END
from heardalike.errors import HeardError
from heardalike.keepers import Keeper
from tests.model import written

WORDS = [*["put"] * 7, *["write"] * 2, *["give"] * 2, *["move"] * 5, *["take"] * 2, "erase", *["undo"] * 3, *["again"] * 2, *["seen"] * 5]


def outcome(call, *places, **names):
    """The deeds that a call made, as texts; or the kind and the fields of its refusal."""
    try:
        told = call(*places, **names)
    except HeardError as error:
        return (type(error).__name__, vars(error))
    return written(told if isinstance(told, list) else [told])


def paths_of(value, path=()):
    """All paths through a shown value."""
    told = [list(path)]
    inner = value.items() if isinstance(value, dict) else enumerate(value) if isinstance(value, list) or isinstance(value, str) and len(value) != 1 else ()
    for step, one in inner:
        told += paths_of(one, (*path, step)) if one != value else [[*path, step]]
    return told


class Calls:
    """Calls drawn by lot, mostly such as are not refused."""

    def __init__(self, seed):
        self.lot = random.Random(seed)

    def any_of(self, *things):
        return self.lot.choice(things)

    def path(self, one):
        return self.any_of(*paths_of(one.shown()))

    def place(self, one, path):
        value = one.at(path)
        if isinstance(value, dict) and self.lot.random() < 0.95:
            return self.any_of("a", "b", "c")
        return self.any_of(0, 0, 1, 2, END, END)

    def what(self):
        return self.any_of(("object",), ("object",), ("list",), ("list",), ("text",), ("leaf", self.lot.randrange(9)), ("sign", "x"))

    def call(self, one, stamps):
        """A call of a copy: its name, its arguments by their places and by their names."""
        word = self.any_of(*WORDS)
        path, to = self.path(one), self.path(one)
        if word == "put":
            return word, (path, self.what()), {"place": self.place(one, path)}
        if word == "write":
            return word, (path, self.any_of("x", "yz", "")), {"place": self.any_of(0, END)}
        if word == "give":
            return word, (path, self.any_of("a", "b"), self.what()), {}
        if word == "move":
            return word, (path, to), {"place": self.place(one, to)}
        if word == "take":
            return word, (path,), {}
        if word == "erase":
            return word, (path,), {"place": self.any_of(0, 1), "many": self.any_of(1, 1, 2)}
        if word == "undo":
            return word, (self.any_of(None, *stamps),), {}
        return word, (), {}


class Pair:
    """A keeper and a copy of one name."""

    def __init__(self, name, among):
        self.keeper, self.copy = Keeper(name, among=among), Copy(name, among=among)

    def line(self):
        """The keeper's line, told of all that the copy has heard."""
        told = dict.fromkeys(self.copy.among(), 0)
        for (_, maker), _, words in self.copy.stands():
            if words[0] == "seen":
                told[maker] = max(told[maker], words[1])
        return min(told.values())

    def paper(self):
        """The paper that a dropping now would leave."""
        seen = [(deed[2][1], deed[0]) for deed in self.copy.stands() if deed[2][0] == "seen"]
        best = {name: max([row for row in seen if row[1][1] == name], default=None) for name in sorted(self.copy.among())}
        return [(name, row[1], row[0]) for name, row in best.items() if row]
