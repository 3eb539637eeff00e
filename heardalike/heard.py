"""Deeds that were heard one after the other, and what is told of them."""

from heardalike.deeds import is_deed
from heardalike.deedtexts import deed_text
from heardalike.errors import Forged, NoDeed
from heardalike.standing import BARE, standing, table, waiting


class Heard:
    """Deeds that were heard, in whatever order, late or twice, beside a ground."""

    def __init__(self, *, ground=BARE):
        self.base = ground
        self.kept = {}

    def hear(self, deed):
        """Hear a deed: tells the stamps, rising, that stand now and didn't ahead."""
        if not is_deed(deed):
            raise NoDeed("this is no deed")
        stamp = deed[0]
        if stamp[0] <= self.base[0]:
            return []
        if stamp in self.kept:
            # Python takes True for 1, so two deeds are held to be one by their texts.
            if deed_text(self.kept[stamp]) != deed_text(deed):
                raise Forged(stamp)
            return []
        ahead = {stood[0]: True for stood in self.stands()}
        self.kept[stamp] = deed
        return [stood[0] for stood in self.stands() if stood[0] not in ahead]

    def deeds(self):
        """All deeds that were heard, rising."""
        return [self.kept[stamp] for stamp in sorted(self.kept)]

    def stands(self):
        """The deeds that stand, rising."""
        return standing(self.deeds(), ground=self.base)

    def waits(self):
        """The stamps of the deeds that wait, rising, each in a tuple with what it lacks."""
        return waiting(self.deeds(), ground=self.base)

    def counts(self):
        """The table of what was heard."""
        return table(self.deeds(), ground=self.base)

    def ground(self):
        """The ground beside which deeds are heard."""
        return self.base

    def beside(self, ground):
        """A Heard of its own that has heard the same, beside another ground."""
        other = Heard(ground=ground)
        other.kept = {stamp: self.kept[stamp] for stamp in self.kept if stamp[0] > ground[0]}
        return other

    def copied(self):
        """A Heard of its own that has heard the same."""
        return self.beside(self.base)

    def __eq__(self, other):
        if not isinstance(other, Heard):
            return False
        return str(self) == str(other) and repr(self.base) == repr(other.base)

    def __len__(self):
        return len(self.kept)

    def __str__(self):
        return "\n".join([deed_text(deed) for deed in self.deeds()])
