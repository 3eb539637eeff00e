"""Names, fields, and the stamps by which deeds and things are told apart."""

ROOT = (0, "")

LETTERS = "abcdefghijklmnopqrstuvwxyz"
FIELD_SIGNS = "abcdefghijklmnopqrstuvwxyz0123456789_"
NAME_LENGTH = 8
FIELD_LENGTH = 12
COUNT_LIMIT = 10 ** 15


def is_whole(thing):
    """Whether it is a whole number: an int, neither True nor False."""
    return isinstance(thing, int) and not isinstance(thing, bool)


def is_text_of(thing, signs, most):
    """Whether it is a text of one to so many signs, each one of these."""
    return isinstance(thing, str) and 1 <= len(thing) <= most and all([sign in signs for sign in thing])


def is_name(thing):
    """Whether it is a NAME."""
    return is_text_of(thing, LETTERS, NAME_LENGTH)


def is_field(thing):
    """Whether it is a FIELD."""
    return is_text_of(thing, FIELD_SIGNS, FIELD_LENGTH) and thing[0] in LETTERS


def is_number_and_text(thing):
    """Whether it is a tuple of a whole number and a text, as ROOT and all stamps are."""
    return isinstance(thing, tuple) and len(thing) == 2 and is_whole(thing[0]) and isinstance(thing[1], str)


def is_root(thing):
    """Whether it is ROOT."""
    # Python holds (False, "") for equal to ROOT, so the kinds of the parts are asked first.
    return is_number_and_text(thing) and thing[0] == 0 and thing[1] == ""


def is_stamp(thing):
    """Whether it is a STAMP; ROOT is none."""
    # Figures are told by comparing: Python refuses to write out numbers of too many figures.
    return is_number_and_text(thing) and 1 <= thing[0] < COUNT_LIMIT and is_name(thing[1])


def stamp_text(stamp):
    """The text of a stamp, or of ROOT."""
    count, name = stamp
    return str(count) + "." + name
