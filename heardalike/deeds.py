"""Deeds: their words, what a thing is that they put, and the stamps that they name."""

from heardalike.stamps import is_field, is_root, is_stamp, is_whole

HOLDERS = ("object", "list", "text")
PERCENT_SIGN = 37
LEAF_LIMIT = 10 ** 30


def begins_with_word(thing):
    """Whether it is a tuple with a text as its first part."""
    return isinstance(thing, tuple) and len(thing) >= 1 and isinstance(thing[0], str)


def is_sign(thing):
    """Whether it is a text of one sign that a sign may have."""
    return isinstance(thing, str) and len(thing) == 1 and " " <= thing <= "~" and ord(thing) != PERCENT_SIGN


def is_leaf_value(thing):
    """Whether it is a value that a leaf may have."""
    if thing is None or isinstance(thing, bool):
        return True
    return is_whole(thing) and -LEAF_LIMIT < thing < LEAF_LIMIT


def is_what(thing):
    """Whether it is WHAT a thing may be."""
    if not begins_with_word(thing):
        return False
    word = thing[0]
    if word in HOLDERS:
        return len(thing) == 1
    if word == "sign":
        return len(thing) == 2 and is_sign(thing[1])
    return word == "leaf" and len(thing) == 2 and is_leaf_value(thing[1])


def is_parent(thing):
    """Whether it may stand as a parent in a deed's words."""
    return is_root(thing) or is_stamp(thing)


def is_place(thing):
    """Whether it may stand as a place in a deed's words."""
    return is_field(thing) or is_root(thing) or is_stamp(thing)


def is_count_below(thing, limit):
    """Whether it is a whole number from 0 on and less than the limit."""
    return is_whole(thing) and 0 <= thing < limit


def is_words(thing, count):
    """Whether it is the words of a deed of this count, whatever stamps they name."""
    if not begins_with_word(thing):
        return False
    word = thing[0]
    parts = thing[1:]
    if word == "put":
        return len(parts) == 3 and is_parent(parts[0]) and is_place(parts[1]) and is_what(parts[2])
    if word == "move":
        return len(parts) == 3 and is_stamp(parts[0]) and is_parent(parts[1]) and is_place(parts[2])
    if word in ("take", "undo"):
        return len(parts) == 1 and is_stamp(parts[0])
    return word == "seen" and len(parts) == 1 and is_count_below(parts[0], count)


def stamps_in(words):
    """The stamps in a deed's words, in their order."""
    return [part for part in words if is_stamp(part)]


def is_deed(thing):
    """Whether it is a DEED."""
    if not isinstance(thing, tuple) or len(thing) != 3:
        return False
    stamp, before, words = thing
    if not is_stamp(stamp) or not is_count_below(before, stamp[0]) or not is_words(words, stamp[0]):
        return False
    return all([part < stamp for part in stamps_in(words)])


def named(deed):
    """What a deed NAMES: a list of stamps, in the words' order, as often as they stand there."""
    return stamps_in(deed[2])


def thing_of(deed):
    """The thing that a put, a move or a take is about; None of other deeds."""
    stamp, before, words = deed
    if words[0] == "put":
        return stamp
    return words[1] if words[0] in ("move", "take") else None


def target_of(deed):
    """The parent and the place of a put or a move, as a tuple; None of other deeds."""
    words = deed[2]
    if words[0] == "put":
        return (words[1], words[2])
    return (words[2], words[3]) if words[0] == "move" else None
