"""What the document says of a set, word by word and without regard to how long it takes.

It is told another way than the program tells it, so that the two can be held against each other.
"""

import functools

from heardalike.deedtexts import deed_text
from heardalike.stamps import ROOT

BARE = (0, (), (), ())
HOLDERS = ("object", "list", "text")


class Model:
    def __init__(self, deeds, ground=BARE):
        self.deeds = {deed[0]: deed for deed in deeds}
        self.upto, self.heads, self.things, rows = ground
        self.rows = dict(rows)
        self.told = {}

    # Points 9 to 11.

    def lacks(self, stamp):
        """"stands", or a stamp, or None."""
        if stamp not in self.told:
            self.told[stamp] = self.find_lack(self.deeds[stamp])
        return self.told[stamp]

    def stands(self, stamp):
        return stamp in self.deeds and self.lacks(stamp) == "stands"

    def find_lack(self, deed):
        (count, maker), before, words = deed
        if before and not self.stands_as_before((before, maker)):
            return (before, maker)
        if words[0] == "undo" and not self.stands(words[1]):
            return words[1]
        if words[0] in ("move", "take") and not self.stands_as_thing(words[1]):
            return words[1]
        if words[0] in ("put", "move"):
            parent, place = words[1:3] if words[0] == "put" else words[2:4]
            if parent != ROOT and not self.stands_as_thing(parent):
                return parent
            if isinstance(place, tuple) and place != ROOT and not self.stands_as_place(place, parent):
                return place
        return "stands" if self.fits(words) else None

    def stands_as_before(self, stamp):
        return stamp in self.heads if stamp[0] <= self.upto else self.stands(stamp)

    def stands_as_thing(self, stamp):
        return stamp in [row[0] for row in self.things] if stamp[0] <= self.upto else self.stands(stamp)

    def stands_as_place(self, stamp, parent):
        return stamp in self.rows.get(parent, ()) if stamp[0] <= self.upto else self.stands(stamp)

    def what(self, thing):
        """What it is, None where it is no put that stands."""
        for stamp, what, _, _ in self.things:
            if stamp == thing:
                return what
        if self.stands(thing) and self.deeds[thing][2][0] == "put":
            return self.deeds[thing][2][3]
        return None

    def is_position(self, stamp, parent):
        if stamp in self.rows.get(parent, ()):
            return True
        if not self.stands(stamp):
            return False
        words = self.deeds[stamp][2]
        return words[:2] == ("put", parent) or words[0] == "move" and words[2] == parent

    def fits(self, words):
        if words[0] == "seen":
            return True
        if words[0] == "undo":
            return self.deeds[words[1]][2][0] != "seen"
        if words[0] in ("move", "take") and self.what(words[1]) is None:
            return False
        if words[0] == "take":
            return True
        parent, place, what = words[1:] if words[0] == "put" else (*words[2:], self.what(words[1]))
        if parent == ROOT or self.what(parent) == ("object",):
            return isinstance(place, str) and what[0] != "sign"
        if self.what(parent) == ("list",):
            return (place == ROOT or self.is_position(place, parent)) and what[0] != "sign"
        if self.what(parent) == ("text",):
            return (place == ROOT or self.is_position(place, parent)) and what[0] == "sign"
        return False

    def standing(self):
        return [self.deeds[stamp] for stamp in sorted(self.deeds) if self.stands(stamp)]

    def waiting(self):
        return [(stamp, self.lacks(stamp)) for stamp in sorted(self.deeds) if not self.stands(stamp)]

    def table(self):
        stood = [*self.heads, *[deed[0] for deed in self.standing()]]
        return {maker: max(count for count, name in stood if name == maker) for _, maker in stood}

    # Points 13 and 14.

    @functools.cache
    def undoers(self, stamp):
        """The undos that count and name a deed."""
        return [deed[0] for deed in self.standing() if deed[2] == ("undo", stamp) and not self.undoers(deed[0])]

    def counting(self):
        return [deed[0] for deed in self.standing() if not self.undoers(deed[0])]

    def undone(self):
        return [(deed[0], max(self.undoers(deed[0]))) for deed in self.standing() if self.undoers(deed[0])]

    # Points 15 to 17.

    def made(self):
        told = [stamp for stamp, _, made, _ in self.things if made]
        return told + [stamp for stamp in self.counting() if self.deeds[stamp][2][0] == "put"]

    @functools.cache
    def laid(self):
        """How things lie, and the skipped moves with their ways."""
        lies = dict.fromkeys(self.made())
        lies.update({stamp: lie for stamp, _, made, lie in self.things if made})
        ways = []
        for stamp in self.counting():
            words = self.deeds[stamp][2]
            if words[0] == "put":
                lies[stamp] = self.lie(stamp, *words[1:3])
            if words[0] == "take" and words[1] in lies:
                lies[words[1]] = None
            if words[0] == "move" and words[1] in lies:
                above = self.above(lies, words[2])
                if words[1] in above:
                    way = above[:above.index(words[1])]
                    ways.append((stamp, [*[(thing, lies[thing][2]) for thing in way], (words[1], None)]))
                else:
                    lies[words[1]] = self.lie(stamp, *words[2:])
        return lies, ways

    def lie(self, stamp, parent, place):
        fields = parent == ROOT or self.what(parent) == ("object",)
        return (parent, place if fields else "", stamp)

    def above(self, lies, thing):
        """A thing, that in which it lies, and so on."""
        if thing == ROOT or lies.get(thing) is None:
            return [thing]
        return [thing, *self.above(lies, lies[thing][0])]

    def lies(self):
        return self.laid()[0]

    def skipped(self):
        return self.laid()[1]

    def depths(self):
        return {thing: len(self.above(self.lies(), thing)) - 1 for thing in self.lies()}

    def in_tree(self, thing):
        return self.above(self.lies(), thing)[-1] == ROOT

    # Points 18 to 20: by the partings alone.

    def place(self, position):
        for row in self.rows.values():
            if position in row:
                return (ROOT, *row)[row.index(position)]
        words = self.deeds[position][2]
        return words[2] if words[0] == "put" else words[3]

    def upway(self, position):
        return [ROOT] if position == ROOT else [position, *self.upway(self.place(position))]

    def positions(self, holder):
        own = [deed[0] for deed in self.standing() if self.is_position(deed[0], holder)]
        return [*self.rows.get(holder, ()), *own]

    def parting(self, first, second):
        one, other = self.upway(first), self.upway(second)
        at = next(place for place in one if place in other)
        ahead = [None, *one][one.index(at)], [None, *other][other.index(at)]
        return (at, *ahead)

    def compare(self, first, second):
        if first == second:
            return 0
        _, one, other = self.parting(first, second)
        return -1 if one is None or other is not None and one > other else 1

    def order(self, holder):
        return sorted(self.positions(holder), key=functools.cmp_to_key(self.compare))

    def all_things(self):
        told = [row[0] for row in self.things] + [deed[0] for deed in self.standing()]
        return [thing for thing in told if self.what(thing) is not None]

    def rows_of_positions(self):
        return [thing for thing in self.all_things() if self.what(thing)[0] in ("list", "text")]

    # Points 21 and 22.

    def inner(self, parent):
        """The things that lie in a parent: of each step the thing to which it leads."""
        there = [thing for thing, lie in self.lies().items() if lie is not None and lie[0] == parent]
        if parent == ROOT or self.what(parent) == ("object",):
            there = sorted(there, key=lambda thing: self.lies()[thing][2])
            return {self.lies()[thing][1]: thing for thing in there}
        order = self.order(parent)
        return dict(enumerate(sorted(there, key=lambda thing: order.index(self.lies()[thing][2]))))

    def paths(self, thing=ROOT, path=()):
        """All paths, each with the thing to which it leads."""
        told = [(list(path), thing)]
        if thing == ROOT or self.what(thing)[0] in HOLDERS:
            for step, inner in self.inner(thing).items():
                told += self.paths(inner, (*path, step))
        return told

    def shown(self, thing=ROOT):
        kind, *rest = ("object",) if thing == ROOT else self.what(thing)
        if kind in ("leaf", "sign"):
            return rest[0]
        inner = {step: self.shown(one) for step, one in self.inner(thing).items()}
        if kind == "object":
            return inner
        values = [inner[step] for step in sorted(inner)]
        return values if kind == "list" else "".join(values)

    def at_field(self, parent, field):
        """The things that lie at a field, the first one first."""
        there = [(lie[2], thing) for thing, lie in self.lies().items() if lie is not None and lie[:2] == (parent, field)]
        return [thing for _, thing in sorted(there, reverse=True)]

    def beside(self, parent, field):
        return [self.shown(thing) for thing in self.at_field(parent, field)[1:]]

    # Points 30 to 32.

    def is_clean(self, upto):
        undos = [deed for deed in self.standing() if deed[2][0] == "undo"]
        return upto >= self.upto and not any(deed[0][0] > upto >= deed[2][1][0] for deed in undos)

    def ground(self, upto):
        """The ground for a clean number."""
        stood = self.standing()
        above = [deed for deed in stood if deed[0][0] > upto]
        below = Model([deed for deed in stood if deed[0][0] <= upto], (self.upto, self.heads, self.things, tuple(self.rows.items())))
        kept = below.kept(above)
        return (upto, below.heads_below(above), tuple(below.thing_row(thing, kept) for thing in kept), tuple(
            (thing, row) for thing in kept if below.what(thing)[0] in ("list", "text") and (row := below.row(thing, kept, above))
        ))

    def heads_below(self, above):
        wanted = {(deed[1], deed[0][1]) for deed in above}
        table = {(count, maker) for maker, count in self.table().items()}
        return tuple(sorted(stamp for stamp in [*self.heads, *self.deeds] if stamp in wanted | table))

    def kept(self, above):
        named = {part for deed in above for part in named_as_things(deed[2])}
        kept = {thing for thing in self.all_things() if thing in named}
        while True:
            more = {thing for thing, lie in self.lies().items() if lie is not None and lie[0] in kept | {ROOT}}
            if more <= kept:
                return sorted(kept)
            kept |= more

    def thing_row(self, thing, kept):
        lie = self.lies().get(thing)
        if lie is not None and lie[0] != ROOT and lie[0] not in kept:
            lie = None
        return (thing, self.what(thing), thing in self.lies(), lie)

    def row(self, holder, kept, above):
        places = {deed[2][2] for deed in above if deed[2][:2] == ("put", holder)}
        places |= {deed[2][3] for deed in above if deed[2][0] == "move" and deed[2][2] == holder}
        places |= {self.lies()[thing][2] for thing in kept if self.lies().get(thing) and self.lies()[thing][0] == holder}
        return tuple(position for position in self.order(holder) if position in places)


def named_as_things(words):
    """The stamps that a deed names as its thing or its parent."""
    if words[0] == "put":
        return [words[1]]
    if words[0] == "move":
        return list(words[1:3])
    return [words[1]] if words[0] == "take" else []


def written(deeds):
    return [deed_text(deed) for deed in deeds]
