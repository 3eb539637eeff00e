"""What stands of a set beside a ground: found by going through its deeds by rising stamps.

All that a deed wants has a lesser stamp than its own, so at its turn it is settled whether that stands.
"""

from heardalike.deeds import target_of
from heardalike.stamps import ROOT, is_field, is_stamp

# As what the parts behind the first word are wanted, where they are stamps.
ROLES = {
    "put": ("parent", "place"),
    "move": ("thing", "parent", "place"),
    "take": ("thing",),
    "undo": ("deed",),
    "seen": (),
}


def wanted(deed):
    """What a deed WANTS, in order: tuples of as what it is wanted, and its stamp."""
    stamp, before, words = deed
    told = []
    if before != 0:
        told.append(("before", (before, stamp[1])))
    for role, part in zip(ROLES[words[0]], words[1:]):
        if is_stamp(part):
            told.append((role, part))
    return told


def kind_in(whats, thing):
    """Of which kind a thing is, ROOT as an object is; None where it is no thing."""
    if thing == ROOT:
        return "object"
    return whats[thing][0] if thing in whats else None


class Footing:
    """What the ground tells and the deeds that stand; and what each of the others lacks."""

    def __init__(self, ground):
        upto, heads, things, orders = ground
        self.upto = upto
        self.heads = heads
        self.whats = {stamp: what for stamp, what, made, lie in things}
        self.positions = {}
        self.places = {}
        self.words = {}
        self.stood = []
        self.lacking = []
        for holder, row in orders:
            self.set_row(holder, row)

    def set_row(self, holder, row):
        """Take up a holder's positions of the ground, each behind the one ahead of it."""
        ahead = ROOT
        for position in row:
            self.set_position(holder, position, ahead)
            ahead = position

    def set_position(self, holder, position, place):
        """Take up one position of a holder."""
        self.positions.setdefault(holder, []).append(position)
        self.places[position] = place

    def is_position(self, holder, stamp):
        """Whether this is one of a holder's positions."""
        return stamp in self.positions.get(holder, [])

    def has(self, role, stamp, deed):
        """Whether a stamp stands as what a deed wants it."""
        if stamp[0] > self.upto:
            return stamp in self.words
        if role == "before":
            return stamp in self.heads
        if role == "place":
            return self.is_position(target_of(deed)[0], stamp)
        return role in ("thing", "parent") and stamp in self.whats

    def missing(self, deed):
        """The first that a deed wants and that doesn't stand, or None."""
        for role, stamp in wanted(deed):
            if not self.has(role, stamp, deed):
                return stamp
        return None

    def fits_in(self, parent, place, what):
        """Whether a thing of this what may be laid in this parent, at this place."""
        kind = kind_in(self.whats, parent)
        if kind == "object":
            return is_field(place) and what[0] != "sign"
        if kind not in ("list", "text") or (what[0] == "sign") != (kind == "text"):
            return False
        return place == ROOT or self.is_position(parent, place)

    def fits(self, words):
        """Whether a deed of these words FITS, all that it wants standing."""
        word = words[0]
        if word == "put":
            return self.fits_in(words[1], words[2], words[3])
        if word == "move":
            return words[1] in self.whats and self.fits_in(words[2], words[3], self.whats[words[1]])
        if word == "take":
            return words[1] in self.whats
        return word != "undo" or self.words[words[1]][0] != "seen"

    def set_deed(self, deed):
        """Take up a deed that stands."""
        stamp, before, words = deed
        self.stood.append(deed)
        self.words[stamp] = words
        if words[0] == "put":
            self.whats[stamp] = words[3]
        if words[0] in ("put", "move"):
            parent, place = target_of(deed)
            self.set_position(parent, stamp, place)

    def meet(self, deed):
        """Settle whether a deed stands, those of lesser stamps being met."""
        missing = self.missing(deed)
        if missing is None and self.fits(deed[2]):
            self.set_deed(deed)
        else:
            self.lacking.append((deed[0], missing))


def footing_of(deeds, ground):
    """The footing of a set of deeds beside a ground."""
    footing = Footing(ground)
    for deed in sorted(deeds, key=lambda one: one[0]):
        footing.meet(deed)
    return footing
