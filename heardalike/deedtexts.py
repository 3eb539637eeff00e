"""Deeds as texts: written, and read again."""

from heardalike.deeds import is_deed
from heardalike.errors import NoDeed
from heardalike.stamps import is_root, is_stamp, stamp_text

FIGURES = "0123456789"
FIGURES_LIMIT = 30
# The longest deed is a put of a sign or a leaf. What stands behind the last of its
# blanks is left whole, as a sign may be a blank itself.
MOST_BLANKS = 6


def leaf_text(value):
    """The text of a leaf's value."""
    if value is None:
        return "none"
    # True equals 1 and False 0, so truths are told by what they are.
    if value is True:
        return "yes"
    if value is False:
        return "no"
    return str(value)


def what_text(what):
    """The text of what a thing is."""
    if what[0] == "sign":
        return "sign " + what[1]
    if what[0] == "leaf":
        return "leaf " + leaf_text(what[1])
    return what[0]


def part_text(part):
    """The text of one part of a deed's words."""
    if isinstance(part, str):
        return part
    if isinstance(part, int):
        return str(part)
    if is_root(part) or is_stamp(part):
        return stamp_text(part)
    return what_text(part)


def deed_text(deed):
    """The text of a deed."""
    stamp, before, words = deed
    return " ".join([stamp_text(stamp), str(before)] + [part_text(part) for part in words])


# What is read below is whatever could be meant; is_deed, and writing it again, tell whether it was so written.


def number_of(text):
    """The whole number that a text of figures, perhaps behind a minus sign, means, or None."""
    figures = text.removeprefix("-")
    if not 1 <= len(figures) <= FIGURES_LIMIT or not all([figure in FIGURES for figure in figures]):
        return None
    return int(text)


def stamp_of(text):
    """The stamp, or ROOT, that a text means; something else where it means none."""
    count, point, name = text.partition(".")
    return (number_of(count), name)


def place_of(text):
    """The place that a text means; something else where it means none."""
    return stamp_of(text) if "." in text else text


def leaf_of(text):
    """The value of a leaf that a text means; the text itself where it means none."""
    if text == "none":
        return None
    if text in ("yes", "no"):
        return text == "yes"
    number = number_of(text)
    return text if number is None else number


def what_of(parts):
    """What a thing is, as parts of a text mean it; something else where they mean none."""
    if len(parts) == 2 and parts[0] == "leaf":
        return ("leaf", leaf_of(parts[1]))
    return tuple(parts)


def words_of(parts):
    """The words of a deed that parts of a text mean; something else where they mean none."""
    word = parts[0]
    if word == "put" and len(parts) >= 4:
        return (word, stamp_of(parts[1]), place_of(parts[2]), what_of(parts[3:]))
    if word == "move" and len(parts) == 4:
        return (word, stamp_of(parts[1]), stamp_of(parts[2]), place_of(parts[3]))
    if word in ("take", "undo") and len(parts) == 2:
        return (word, stamp_of(parts[1]))
    if word == "seen" and len(parts) == 2:
        return (word, number_of(parts[1]))
    return None


def meant_by(text):
    """The deed that a text means; something else where it means none."""
    parts = text.split(" ", MOST_BLANKS)
    if len(parts) < 3:
        return None
    return (stamp_of(parts[0]), number_of(parts[1]), words_of(parts[2:]))


def deed_of(text):
    """The deed of which this is the text, or NoDeed."""
    if not isinstance(text, str):
        raise NoDeed("this is no text")
    deed = meant_by(text)
    if not is_deed(deed) or deed_text(deed) != text:
        raise NoDeed("this is no text of a deed")
    return deed
