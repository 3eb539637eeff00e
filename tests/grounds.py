"""A ground to hand in beside deeds of counts above 10, as it is told of these deeds with later ones."""

from tests.sets import ROOT, read

BELOW = read(
    "1.ann 0 put 0. a object",
    "2.ann 1 put 0. b list",
    "3.bob 0 put 0. c text",
    "4.bob 3 put 0. d list",
    "5.ann 2 put 2.ann 0. leaf 5",
    "6.ann 5 put 3.bob 0. sign x",
    "6.bob 4 put 1.ann e object",
    "7.ann 6 move 5.ann 2.ann 0.",
    "8.bob 6 put 2.ann 5.ann leaf 8",
    "9.ann 7 take 6.bob",
    "10.bob 8 undo 4.bob",
)

# For these the ground keeps what is needed by them: the elder head 7.ann, the things 4.bob and 6.bob, the place 5.ann.
ABOVE = read(
    "11.ann 7 seen 0",
    "12.bob 10 put 4.bob 0. leaf 12",
    "13.ann 11 move 6.bob 0. a",
    "14.cy 0 put 2.ann 5.ann leaf 14",
)

GROUND = (
    10,
    ((7, "ann"), (9, "ann"), (10, "bob")),
    (
        ((1, "ann"), ("object",), True, (ROOT, "a", (1, "ann"))),
        ((2, "ann"), ("list",), True, (ROOT, "b", (2, "ann"))),
        ((3, "bob"), ("text",), True, (ROOT, "c", (3, "bob"))),
        ((4, "bob"), ("list",), False, None),
        ((5, "ann"), ("leaf", 5), True, ((2, "ann"), "", (7, "ann"))),
        ((6, "ann"), ("sign", "x"), True, ((3, "bob"), "", (6, "ann"))),
        ((6, "bob"), ("object",), True, None),
        ((8, "bob"), ("leaf", 8), True, ((2, "ann"), "", (8, "bob"))),
    ),
    (
        ((2, "ann"), ((7, "ann"), (5, "ann"), (8, "bob"))),
        ((3, "bob"), ((6, "ann"),)),
    ),
)
