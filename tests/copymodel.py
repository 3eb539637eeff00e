"""A copy as points 24 to 29 tell it, word by word: what it makes, and what it refuses."""

import re

from heardalike.stamps import ROOT
from tests.model import HOLDERS, Model

EDITS = ("put", "move", "take")


class Refused(Exception):
    """A refusal: its kind, and its fields in the order of the document."""


def is_field(thing):
    return type(thing) is str and re.fullmatch("[a-z][a-z0-9_]{0,11}", thing) is not None


def is_whole(thing):
    return type(thing) is int


def is_sign(thing):
    return type(thing) is str and len(thing) == 1 and " " <= thing <= "~" and thing != chr(37)


def is_what(thing):
    if type(thing) is not tuple or not thing or type(thing[0]) is not str:
        return False
    if thing in [("object",), ("list",), ("text",)]:
        return True
    if len(thing) != 2 or thing[0] not in ("sign", "leaf"):
        return False
    if thing[0] == "sign":
        return is_sign(thing[1])
    return thing[1] in (None, True, False) or is_whole(thing[1]) and abs(thing[1]) < 10 ** 30


class Told:
    def __init__(self, name, among):
        self.name, self.among, self.deeds = name, among, []

    def model(self):
        return Model(self.deeds)

    def make(self, *words):
        count = max([deed[0][0] for deed in self.deeds], default=0) + 1
        deed = ((count, self.name), self.model().table().get(self.name, 0), words)
        self.deeds.append(deed)
        return deed

    # Points 22, 25 and 26.

    def led(self, path, wanted):
        model = self.model()
        at, kind = ROOT, "root"
        for number, step in enumerate(path):
            inner = model.inner(at) if at == ROOT or kind in HOLDERS else {}
            found = [inner[key] for key in inner if type(key) is type(step) and key == step]
            if not found:
                raise Refused("NoPath", list(path), number)
            at = found[0]
            kind = model.what(at)[0]
        if kind not in wanted:
            raise Refused("NoPath", list(path), len(path))
        return at, kind

    def row(self, holder):
        return [thing for _, thing in sorted(self.model().inner(holder).items())]

    def placed(self, holder, kind, place):
        if kind in ("root", "object"):
            if not is_field(place):
                raise Refused("NoPlace", place)
            return place
        lies = self.model().lies()
        places = [ROOT, *[lies[thing][2] for thing in self.row(holder)]]
        if not is_whole(place) or not -1 <= place < len(places):
            raise Refused("NoPlace", place)
        return places[place]

    def fit(self, kind, what):
        if not is_what(what) or (what[0] == "sign") is not (kind == "text"):
            raise Refused("NoWhat")

    def put(self, path, what, place=-1):
        holder, kind = self.led(path, ("root", *HOLDERS))
        at = self.placed(holder, kind, place)
        self.fit(kind, what)
        return [self.make("put", holder, at, what)]

    def write(self, path, text, place=-1):
        holder, kind = self.led(path, ("text",))
        at = self.placed(holder, kind, place)
        if type(text) is not str or not all(map(is_sign, text)):
            raise Refused("NoWhat")
        told = []
        for sign in text:
            told.append(self.make("put", holder, at, ("sign", sign)))
            at = told[-1][0]
        return told

    def give(self, path, field, what):
        holder, kind = self.led(path, ("root", "object"))
        at = self.placed(holder, kind, field)
        self.fit(kind, what)
        there = self.model().at_field(holder, at)
        return [*[self.make("take", thing) for thing in there], self.make("put", holder, at, what)]

    def move(self, path, to, place=-1):
        thing, _ = self.led(path, (*HOLDERS, "leaf", "sign"))
        holder, kind = self.led(to, ("root", *HOLDERS))
        at = self.placed(holder, kind, place)
        self.fit(kind, self.model().what(thing))
        deed = self.make("move", thing, holder, at)
        if deed[0] in [stamp for stamp, _ in self.model().skipped()]:
            self.deeds.pop()
            raise Refused("Ring", thing)
        return [deed]

    def take(self, path):
        thing, _ = self.led(path, (*HOLDERS, "leaf", "sign"))
        parent, field, _ = self.model().lies()[thing]
        there = self.model().at_field(parent, field) if field else [thing]
        return [self.make("take", one) for one in there]

    def erase(self, path, place=0, many=1):
        holder, _ = self.led(path, ("list", "text"))
        row = self.row(holder)
        if not is_whole(place) or not is_whole(many) or place < 0 or many < 0 or place + many > len(row):
            raise Refused("NoPlace", place)
        return [self.make("take", thing) for thing in row[place:place + many]]

    # Points 27 and 28.

    def told(self):
        own = [deed for deed in self.model().standing() if deed[0][1] == self.name and deed[2][0] == "seen"]
        return max(own)[2][1] if own else 0

    def known(self):
        return min(self.model().table().get(name, 0) for name in self.among)

    def seen(self, upto=None):
        if upto is not None and (not is_whole(upto) or upto not in range(self.told(), self.known() + 1)):
            raise Refused("NotKnown", upto)
        return [self.make("seen", self.known() if upto is None else upto)]

    def undo(self, stamp=None):
        stood = {deed[0]: deed[2] for deed in self.model().standing()}
        if stamp is None:
            own = [one for one in self.model().counting() if one[1] == self.name and one[0] > self.told() and stood[one][0] in EDITS]
            if not own:
                raise Refused("Nothing")
            return [self.make("undo", max(own))]
        if stamp not in stood or type(stamp[0]) is not int or stood[stamp][0] == "seen":
            raise Refused("Unknown", stamp)
        if stamp[0] <= self.told():
            raise Refused("Settled", stamp)
        return [self.make("undo", stamp)]

    def again(self):
        stood = {deed[0]: deed[2] for deed in self.model().standing()}
        own = [one for one in self.model().counting() if one[1] == self.name and one[0] > self.told() and stood[one][0] == "undo"]
        own = [one for one in own if stood[stood[one][1]][0] in EDITS]
        if not own:
            raise Refused("Nothing")
        return [self.make("undo", max(own))]

    # Point 29.

    def news(self, table):
        return [deed for deed in self.model().standing() if deed[0][0] > table.get(deed[0][1], 0)]
