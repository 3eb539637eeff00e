"""Sets of deeds to hand in: read from texts, in several orders, and drawn by lot."""

import random

from heardalike.deeds import is_deed, target_of
from heardalike.deedtexts import deed_of
from heardalike.stamps import ROOT
from tests.model import Model

MAKERS = ("ann", "bob", "cy")
FIELDS = ("a", "b")
HOLDER_WHATS = (("object",), ("object",), ("list",), ("list",), ("text",))


def read(*texts):
    """The deeds of these texts."""
    return [deed_of(text) for text in texts]


def stamp(text):
    """The stamp that is written so, or ROOT."""
    count, name = text.split(".")
    return (int(count), name)


def stamps(text):
    """The stamps that are written so, with blanks between."""
    return [stamp(word) for word in text.split()]


def orders(deeds, many=5):
    """The deeds as they are, the other way round, and in some orders drawn by lot."""
    told = [list(deeds), list(reversed(deeds))]
    lot = random.Random(len(deeds))
    for _ in range(many):
        other = list(deeds)
        lot.shuffle(other)
        told.append(other)
    return told


class Lot:
    """Draws deeds that mostly stand, of several makers, with like counts among them."""

    def __init__(self, seed):
        self.lot = random.Random(seed)
        self.deeds = []
        self.good = []

    def seldom(self):
        return self.lot.random() < 0.04

    def any_of(self, *things):
        return self.lot.choice(things) if things else (1, "ann")

    def stamp(self):
        maker = self.any_of(*MAKERS)
        last = max([deed[0][0] for deed in self.deeds], default=1)
        own = max([deed[0][0] for deed in self.deeds if deed[0][1] == maker], default=0)
        return (max(own + 1, last + self.lot.randint(-2, 2)), maker)

    def lesser(self, stamp):
        """Deeds of lesser stamps: seldom any, mostly such as stand."""
        return [deed for deed in (self.deeds if self.seldom() else self.good) if deed[0] < stamp]

    def before(self, stamp):
        own = [deed[0][0] for deed in self.lesser(stamp) if deed[0][1] == stamp[1]]
        return self.lot.randrange(stamp[0]) if self.seldom() else max(own, default=0)

    def thing(self, stamp, kinds):
        """A thing of one of these kinds, seldom what is none; and what it is."""
        things = [(deed[0], deed[2][3]) for deed in self.lesser(stamp) if deed[2][0] == "put" and deed[2][3][0] in kinds]
        if self.seldom() or not things:
            return (self.any_of(*[deed[0] for deed in self.lesser(stamp)]), ("leaf", 1))
        return self.any_of(*things)

    def target(self, stamp, sign):
        """A parent and a place, mostly such as fit a sign, or what is none."""
        parent, what = self.thing(stamp, ("text",) if sign else ("object", "list", "list"))
        if what[0] in ("leaf", "object") and self.lot.random() < 0.4 or what[0] == "leaf" and not self.seldom():
            parent = ROOT
        if self.seldom():
            return (parent, self.any_of(ROOT, "a", *[deed[0] for deed in self.lesser(stamp)]))
        if parent == ROOT or what[0] == "object":
            return (parent, self.any_of(*FIELDS))
        told = [deed[0] for deed in self.lesser(stamp) if target_of(deed) and target_of(deed)[0] == parent]
        return (parent, self.any_of(ROOT, *told, *told))

    def words(self, stamp):
        word = self.any_of(*["put"] * 10, *["move"] * 7, *["take"] * 2, *["undo"] * 4, "seen")
        if word == "put":
            what = self.any_of(*HOLDER_WHATS, ("leaf", self.lot.randrange(9)), ("sign", "x"), ("sign", "y"))
            return ("put", *self.target(stamp, what[0] == "sign"), what)
        if word == "move":
            thing, what = self.thing(stamp, ("object", "list", "list", "text", "leaf", "sign"))
            return ("move", thing, *self.target(stamp, what[0] == "sign"))
        if word == "take":
            return ("take", self.thing(stamp, ("object", "list", "text", "leaf", "sign"))[0])
        if word == "undo":
            return ("undo", self.any_of(*[deed[0] for deed in self.lesser(stamp)]))
        return ("seen", self.lot.randrange(stamp[0]))

    def draw(self):
        stamp = self.stamp()
        deed = (stamp, self.before(stamp), self.words(stamp))
        if is_deed(deed):
            self.deeds.append(deed)
            self.good = Model(self.deeds).standing()


def drawn(seed, size=30):
    """A set of deeds drawn by lot, seldom with some left out, in any order."""
    lot = Lot(seed)
    for _ in range(size):
        lot.draw()
    deeds = [deed for deed in lot.deeds if seed % 3 or not lot.seldom()]
    lot.lot.shuffle(deeds)
    return deeds


def row_of(maker, words, first=1):
    """Deeds of one maker with these words, each behind the one ahead."""
    return [((first + at, maker), first + at - 1 if at else 0, told) for at, told in enumerate(words)]
