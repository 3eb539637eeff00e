"""The refusals of the program.

The messages never write out what was refused: it may be anything, also a number
that Python does not turn into a text, and then the refusal itself would fail.
"""


class HeardError(ValueError):
    """Any refusal; each other one stands straight under it."""


class NoDeed(HeardError):
    """What should be a deed, or the text of one, is none."""


class Forged(HeardError):
    """Another deed with this stamp was heard."""

    def __init__(self, stamp):
        super().__init__("another deed with this stamp was heard")
        self.stamp = stamp


class Stranger(HeardError):
    """A name that is not one of those concerned."""

    def __init__(self, who):
        super().__init__("this name is not one of those concerned")
        self.who = who


class NoHolder(HeardError):
    """What should be the stamp of a list or a text is none."""

    def __init__(self, stamp):
        super().__init__("this is not the stamp of a list or a text")
        self.stamp = stamp


class Unknown(HeardError):
    """A stamp that is not known where it is asked for."""

    def __init__(self, stamp):
        super().__init__("this stamp is not known here")
        self.stamp = stamp


class NoPath(HeardError):
    """A path whose step of this number leads nowhere, or to what is not wanted."""

    def __init__(self, path, step):
        super().__init__("this path does not lead to what is wanted")
        self.path = list(path)
        self.step = step


class NoPlace(HeardError):
    """What should be a field or a place is none here."""

    def __init__(self, place):
        super().__init__("this is no place here")
        self.place = place


class NoWhat(HeardError):
    """What should say what a thing is does not, or does not fit its holder."""


class Ring(HeardError):
    """A move that would lay this thing in itself."""

    def __init__(self, thing):
        super().__init__("this thing would lie in itself")
        self.thing = thing


class Settled(HeardError):
    """A deed that can no longer be undone."""

    def __init__(self, stamp):
        super().__init__("this deed is settled")
        self.stamp = stamp


class Nothing(HeardError):
    """There is nothing to undo, or to do again."""


class NotKnown(HeardError):
    """A number up to which a copy cannot tell that it has seen all."""

    def __init__(self, upto):
        super().__init__("not all is known up to this number, or more was told already")
        self.upto = upto


class NotClean(HeardError):
    """A number for which there is no ground."""

    def __init__(self, upto):
        super().__init__("this number is not clean")
        self.upto = upto


class Dropped(HeardError):
    """News that would need deeds which were dropped."""

    def __init__(self, upto):
        super().__init__("deeds that are needed were dropped")
        self.upto = upto


class NoRow(HeardError):
    """What should be a row that a room understands is none."""
