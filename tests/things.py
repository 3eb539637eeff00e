"""Things of any kind, to hand in where something of a certain form is asked for."""


class Sour:
    """An object that fails whenever it is compared, measured, hashed or tested."""

    def __eq__(self, other):
        raise AssertionError("compared")

    __ne__ = __lt__ = __le__ = __gt__ = __ge__ = __eq__

    def __hash__(self):
        raise AssertionError("hashed")

    def __len__(self):
        raise AssertionError("measured")

    def __bool__(self):
        raise AssertionError("tested")

    def __iter__(self):
        raise AssertionError("iterated")


class Sweet:
    """An object that is equal to everything, and less and greater."""

    def __eq__(self, other):
        return True

    __lt__ = __le__ = __gt__ = __ge__ = __eq__

    def __hash__(self):
        return 0

    def __len__(self):
        return 2

    def __getitem__(self, at):
        return self


def deep_tuple():
    """A tuple nested deeper than Python can follow by calls."""
    told = ()
    for _ in range(20000):
        told = (told,)
    return told


def ring_list():
    """A list that contains itself."""
    told = []
    told.append(told)
    return told


HUGE = 10 ** 5000

# Right in no place of a deed at all.
NOWHERE = [
    -1, -5, 10 ** 30, -(10 ** 30), HUGE, -HUGE,
    "", "A", "Ann", "ann ", " ann", "ann\n", "a b", "a-b", "\u00e4", "\u03b1", "\u0431", "\u05d0", "\u3042", "\uff41",
    "\u00b2", "\u0663", "\ud800", "\U0001f600", "\x00", "\x7f", "1", "9", "_", "1a", "_a",
    b"", b"a", b"ann", bytearray(b"ann"), {}, {1: 2}, {"put": 1}, {0: 1, 1: "ann"},
    [], [1], [1, "ann"], [0, ""], ["object"], ["take", (1, "ann")], ring_list(), set(), {1}, frozenset(),
    (), (None,), (1,), ("ann",), (1, 2), ("ann", 1), (1, None), (None, "ann"), (1, b"ann"), (1, ["ann"]), ([1], "ann"),
    ({}, "ann"), (1, {}), (1, "Ann"), (1, "ann", 1), (1, "ann", ""), ((1, "ann"),), (0, "ann"), (1, ""), (-1, "ann"),
    (False, ""), (True, "ann"), (True, ""), (0, "", ""), (0, None), (0, b""), (0,), ("",), ("", 0),
    (HUGE, "ann"), (-HUGE, "ann"), (10 ** 15, "ann"), (Sour(), "ann"), (1, Sour()), (0, Sour()), (0, Sweet()), (Sweet(), Sweet()),
    ([],), ({},), (ring_list(),), (ring_list(), ring_list()), deep_tuple(), (deep_tuple(), "ann"), (1, deep_tuple()),
    Sour(), Sweet(), object(), len, int, range(2), Ellipsis, NotImplemented,
]

# Right in some places, wrong in others.
SOMEWHERE = [
    None, True, False, 0, 1, 2, 10 ** 15, "a", "ann", "put", "abcdefghi", "a1_",
    (0, ""), (1, "ann"), (2, "bob"), ("object",), ("list",), ("text",), ("sign", "x"), ("leaf", 5), ("leaf", None),
    ("put", (0, ""), "a", ("list",)), ("take", (1, "ann")), ("seen", 0), ((3, "ann"), 0, ("seen", 0)),
]

ANYTHING = NOWHERE + SOMEWHERE
