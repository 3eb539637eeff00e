"""The things of a set as they lie: which of them a step leads to, and which step leads to a thing."""

from heardalike.footing import footing_of, kind_in
from heardalike.orders import order_in
from heardalike.places import laid
from heardalike.stamps import is_field, is_whole


def things_within(lying):
    """Of each parent the things that lie in it, by their positions."""
    within = {}
    for thing in lying:
        if lying[thing] is not None:
            parent, field, position = lying[thing]
            inner = within.setdefault(parent, {})
            inner[position] = thing
    return within


class Tree:
    """The made things of a set beside a ground, and how they lie."""

    def __init__(self, deeds, ground):
        self.footing = footing_of(deeds, ground)
        self.lying = laid(self.footing.stood, ground)[0]
        self.within = things_within(self.lying)

    def kind_of(self, thing):
        """Of which kind a thing is; ROOT is as an object."""
        return kind_in(self.footing.whats, thing)

    def at_field(self, parent, field):
        """The things that lie in ROOT or an object at a field, the FIRST one first."""
        inner = self.within.get(parent, {})
        things = [inner[position] for position in sorted(inner, reverse=True)]
        return [thing for thing in things if self.lying[thing][1] == field]

    def firsts(self, parent):
        """Of each field of ROOT or an object at which things lie the FIRST one there."""
        inner = self.within.get(parent, {})
        # Of several things at one field the one by the greatest position is set last.
        return {self.lying[inner[position]][1]: inner[position] for position in sorted(inner)}

    def in_row(self, holder):
        """The things that lie in a list or a text, in the order in which they are shown."""
        inner = self.within.get(holder, {})
        return [inner[position] for position in order_in(self.footing, holder) if position in inner]

    def shown_in(self, thing):
        """The things that are shown in a thing, or in ROOT."""
        kind = self.kind_of(thing)
        if kind == "object":
            return list(self.firsts(thing).values())
        return self.in_row(thing) if kind in ("list", "text") else []

    def thing_by(self, parent, step):
        """The thing to which a step leads from another one, or None; the step may be anything."""
        kind = self.kind_of(parent)
        if kind == "object" and is_field(step):
            return self.firsts(parent).get(step)
        if kind in ("list", "text") and is_whole(step):
            things = self.in_row(parent)
            return things[step] if 0 <= step < len(things) else None
        return None

    def step_to(self, thing):
        """The step that leads to a thing from the one in which it lies, or None."""
        parent, field, position = self.lying[thing]
        # A FIELD has signs: where it has none the thing lies in a list or a text.
        if field == "":
            return self.in_row(parent).index(thing)
        return field if self.firsts(parent)[field] == thing else None
