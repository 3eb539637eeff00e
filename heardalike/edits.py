"""Where a copy edits what it shows: the places there, and by what edits are refused."""

from heardalike.deeds import is_sign, is_what
from heardalike.errors import NoPath, NoPlace, NoWhat
from heardalike.paths import led_to
from heardalike.stamps import ROOT, is_field, is_whole

END = -1


def led_below_root(tree, path):
    """The thing, not ROOT, to which a path leads; or NoPath."""
    thing = led_to(tree, path)
    if thing == ROOT:
        raise NoPath(path, len(path))
    return thing


def place_in(tree, holder, place):
    """The place that a deed has for a place as it is shown in ROOT or a holder; or NoPlace."""
    if tree.kind_of(holder) == "object":
        if not is_field(place):
            raise NoPlace(place)
        return place
    row = tree.in_row(holder)
    if not is_whole(place) or place != END and not 0 <= place <= len(row):
        raise NoPlace(place)
    ahead = row if place == END else row[:place]
    return tree.lying[ahead[-1]][2] if ahead else ROOT


def things_from_place(tree, holder, place, many):
    """So many things of those that are shown in a list or a text, from a place on; or NoPlace."""
    row = tree.in_row(holder)
    if not is_whole(place) or not is_whole(many) or place < 0 or many < 0 or place + many > len(row):
        raise NoPlace(place)
    return row[place:place + many]


def things_with(tree, thing):
    """The things that are taken with a thing: all at its field, the greatest position first; in a row it alone."""
    parent, field, position = tree.lying[thing]
    # A FIELD has signs: where it has none the thing lies in a list or a text.
    return [thing] if field == "" else tree.at_field(parent, field)


def check_what(tree, holder, what):
    """Refuse with NoWhat what a thing in ROOT or this holder can't be."""
    if not is_what(what) or (what[0] == "sign") != (tree.kind_of(holder) == "text"):
        raise NoWhat("this is no what, or it does not fit the holder")


def check_signs(text):
    """Refuse with NoWhat what is no text of signs."""
    if not isinstance(text, str) or not all([is_sign(sign) for sign in text]):
        raise NoWhat("this is no text of signs")
