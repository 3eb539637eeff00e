"""A keeper: a copy that drops what nobody can need any more."""

from heardalike.copies import Copy, count_in
from heardalike.errors import Dropped
from heardalike.grounds import cleaned, ground_of


class Keeper(Copy):
    """A copy that drops, and then goes on beside a ground."""

    def __init__(self, name, *, among):
        super().__init__(name, among=among)
        self.sheet = []

    def farthest(self):
        """Of each name that told one, its "seen" that told the greatest upto: a tuple (name, stamp, upto)."""
        told = sorted([(words[1], stamp) for stamp, before, words in self.stands() if words[0] == "seen"])
        # Of several of one name the greatest upto is set last, and of several of these the greatest stamp.
        return {stamp[1]: (stamp[1], stamp, upto) for upto, stamp in told}

    def line(self):
        """Its LINE: up to there each of the names has told that it has seen all."""
        rows = self.farthest()
        return min([rows[name][2] if name in rows else 0 for name in self.names])

    def drop(self):
        """DROP what is below the greatest clean number up to its line: tells its ground's upto then."""
        ground = self.ground()
        upto = cleaned(self.deeds(), self.line(), ground=ground)
        if upto > ground[0]:
            rows = self.farthest()
            self.sheet = [rows[name] for name in sorted(self.names)]
            self.heard = self.heard.beside(ground_of(self.deeds(), upto, ground=ground))
        return self.ground()[0]

    def paper(self):
        """Its PAPER: who had told what when its ground was raised last."""
        return list(self.sheet)

    def news(self, table):
        """The NEWS for a table; or Dropped, where it lacks what was dropped."""
        upto, heads, things, orders = self.ground()
        for count, maker in heads:
            if count_in(table, maker) < count:
                raise Dropped(upto)
        return super().news(table)
