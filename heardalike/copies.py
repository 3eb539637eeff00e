"""A copy of a document: it hears deeds, makes deeds at the places that it shows, and tells what it has heard."""

from heardalike.deeds import HOLDERS, is_deed
from heardalike.edits import END, check_signs, check_what, led_below_root, place_in, things_from_place, things_with
from heardalike.errors import NoDeed, Nothing, NotKnown, Ring, Settled, Stranger, Unknown
from heardalike.heard import Heard
from heardalike.paths import led_to, led_to_kind
from heardalike.places import way_between
from heardalike.shows import shown_of
from heardalike.stamps import ROOT, is_name, is_stamp, is_whole
from heardalike.trees import Tree
from heardalike.undoing import undos_of

EDIT_WORDS = ("put", "move", "take")


def count_in(table, name):
    """A table's count of a name, 0 where it has none."""
    count = table.get(name, 0)
    return count if is_whole(count) else 0


class Copy:
    """One of several copies of a document."""

    def __init__(self, name, *, among):
        if not is_name(name) or name not in among:
            raise Stranger(name)
        self.own = name
        self.names = list(among)
        self.heard = Heard()
        self.hearings = []

    def name(self):
        """Its NAME."""
        return self.own

    def among(self):
        """The names AMONG whom it is, as they were handed in."""
        return list(self.names)

    def hear(self, deed):
        """Hear a deed: tells the stamps, rising, that stand now and didn't ahead."""
        if not is_deed(deed):
            raise NoDeed("this is no deed")
        maker = deed[0][1]
        if maker not in self.names:
            raise Stranger(maker)
        return self.heard.hear(deed)

    def hear_all(self, deeds):
        """Hear deeds one after the other, up to the first that is refused: tells all stamps that stand now."""
        handed = list(deeds)
        self.hearings.append(("in", len(handed)))
        risen = []
        done = 0
        try:
            for deed in handed:
                risen.extend(self.hear(deed))
                done += 1
        finally:
            self.hearings.append(("out", done))
        return sorted(risen)

    def log(self):
        """The LOG: of each hearing of a list how many deeds were handed in, and how many gone through."""
        return list(self.hearings)

    def deeds(self):
        """All deeds that were heard, rising."""
        return self.heard.deeds()

    def stands(self):
        """The deeds that stand, rising."""
        return self.heard.stands()

    def waits(self):
        """The stamps of the deeds that wait, rising, each in a tuple with what it lacks."""
        return self.heard.waits()

    def counts(self):
        """Its table."""
        return self.heard.counts()

    def ground(self):
        """The ground beside which it hears deeds."""
        return self.heard.ground()

    def tree(self):
        """The things of all that was heard, as they lie."""
        return Tree(self.deeds(), self.ground())

    def shown(self):
        """What is shown of all that was heard."""
        return shown_of(self.tree(), ROOT)

    def at(self, path):
        """What is shown where a path leads; or NoPath."""
        tree = self.tree()
        return shown_of(tree, led_to(tree, path))

    def news(self, table):
        """The NEWS for a table: the standing deeds, rising, that are not counted in it."""
        return [deed for deed in self.stands() if deed[0][0] > count_in(table, deed[0][1])]

    def make(self, words):
        """MAKE a deed of these words, and hear it."""
        count = 1 + max([self.ground()[0]] + [deed[0][0] for deed in self.deeds()])
        deed = ((count, self.own), count_in(self.counts(), self.own), words)
        self.heard.hear(deed)
        return deed

    def take_all(self, things):
        """Take these things away, one after the other."""
        made = []
        for thing in things:
            made.append(self.make(("take", thing)))
        return made

    def put(self, path, what, *, place=END):
        """Put a thing into ROOT or a holder."""
        tree = self.tree()
        holder = led_to_kind(tree, path, HOLDERS)
        at = place_in(tree, holder, place)
        check_what(tree, holder, what)
        return self.make(("put", holder, at, what))

    def write(self, path, text, *, place=END):
        """Put the signs of a text into a text, one behind the other."""
        tree = self.tree()
        holder = led_to_kind(tree, path, ("text",))
        at = place_in(tree, holder, place)
        check_signs(text)
        made = []
        for sign in text:
            made.append(self.make(("put", holder, at, ("sign", sign))))
            at = made[-1][0]
        return made

    def give(self, path, field, what):
        """Put a thing at a field of ROOT or an object, in the place of all that lie there."""
        tree = self.tree()
        holder = led_to_kind(tree, path, ("object",))
        at = place_in(tree, holder, field)
        check_what(tree, holder, what)
        return self.take_all(tree.at_field(holder, at)) + [self.make(("put", holder, at, what))]

    def move(self, path, to, *, place=END):
        """Move a thing into ROOT or a holder."""
        tree = self.tree()
        thing = led_below_root(tree, path)
        holder = led_to_kind(tree, to, HOLDERS)
        at = place_in(tree, holder, place)
        check_what(tree, holder, tree.footing.whats[thing])
        # The new deed will be the last one at its turn: all lies then as it lies now.
        if way_between(tree.lying, holder, thing) is not None:
            raise Ring(thing)
        return self.make(("move", thing, holder, at))

    def take(self, path):
        """Take a thing away; from a field all that lie there."""
        tree = self.tree()
        return self.take_all(things_with(tree, led_below_root(tree, path)))

    def erase(self, path, *, place=0, many=1):
        """Take so many things away that are shown in a list or a text, from a place on."""
        tree = self.tree()
        holder = led_to_kind(tree, path, ("list", "text"))
        return self.take_all(things_from_place(tree, holder, place, many))

    def unsettled(self):
        """Its own deeds, rising, that count and aren't settled."""
        stood = self.stands()
        undos = undos_of(stood)
        settled = self.told()
        own = [deed for deed in stood if deed[0][1] == self.own and deed[0][0] > settled]
        return [deed for deed in own if deed[0] not in undos]

    def undo(self, stamp=None):
        """Undo a deed; without a stamp the last one of its own edits that counts and isn't settled."""
        if stamp is None:
            edits = [deed for deed in self.unsettled() if deed[2][0] in EDIT_WORDS]
            if not edits:
                raise Nothing("there is nothing to undo")
            return self.make(("undo", edits[-1][0]))
        undoable = [deed[0] for deed in self.stands() if deed[2][0] != "seen"]
        if not is_stamp(stamp) or stamp not in undoable:
            raise Unknown(stamp)
        if stamp[0] <= self.told():
            raise Settled(stamp)
        return self.make(("undo", stamp))

    def again(self):
        """Undo the last one of its own undos of edits that counts and isn't settled."""
        edits = {deed[0]: True for deed in self.stands() if deed[2][0] in EDIT_WORDS}
        undos = [deed for deed in self.unsettled() if deed[2][0] == "undo" and deed[2][1] in edits]
        if not undos:
            raise Nothing("there is nothing to do again")
        return self.make(("undo", undos[-1][0]))

    def known(self):
        """The number up to which it KNOWS ALL."""
        counts = self.counts()
        return min([count_in(counts, name) for name in self.names])

    def told(self):
        """What it told last by a "seen" of its own, 0 where it told none."""
        own = [deed for deed in self.stands() if deed[0][1] == self.own and deed[2][0] == "seen"]
        return own[-1][2][1] if own else 0

    def seen(self, *, upto=None):
        """Tell that it has all deeds of counts up to a number; without one up to what it knows all."""
        number = self.known() if upto is None else upto
        if not is_whole(number) or not self.told() <= number <= self.known():
            raise NotKnown(upto)
        return self.make(("seen", number))
