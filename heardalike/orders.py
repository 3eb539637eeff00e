"""In which order the positions of a list or a text stand, and where two of them part."""

from heardalike.errors import NoHolder, Unknown
from heardalike.footing import footing_of, kind_in
from heardalike.stamps import ROOT, is_stamp
from heardalike.standing import BARE


def order_in(footing, holder):
    """The positions of a list or a text in their ORDER."""
    behind = {}
    for position in sorted(footing.positions.get(holder, [])):
        behind.setdefault(footing.places[position], []).append(position)
    told = []
    # What is last here comes next: so the greatest goes first, and all behind it ahead of the others.
    ahead = list(behind.get(ROOT, []))
    while ahead:
        position = ahead.pop()
        told.append(position)
        ahead.extend(behind.get(position, []))
    return told


def upway(footing, position):
    """The UPWAY of a position: it, its place, the place of that, and so on up to ROOT."""
    way = [position]
    while way[-1] != ROOT:
        way.append(footing.places[way[-1]])
    return way


def ahead_of(way, at):
    """What stands just ahead of this in an upway, or None."""
    number = way.index(at)
    return way[number - 1] if number > 0 else None


def footing_with(deeds, holder, ground):
    """The footing of a set in which this is a list or a text, or NoHolder."""
    footing = footing_of(deeds, ground)
    if not is_stamp(holder) or kind_in(footing.whats, holder) not in ("list", "text"):
        raise NoHolder(holder)
    return footing


def order(deeds, holder, *, ground=BARE):
    """The positions of a list or a text in their ORDER, or NoHolder."""
    return order_in(footing_with(deeds, holder, ground), holder)


def parting(deeds, holder, one, other, *, ground=BARE):
    """The PARTING of two positions of a list or a text, or NoHolder, or Unknown."""
    footing = footing_with(deeds, holder, ground)
    for position in (one, other):
        if not is_stamp(position) or not footing.is_position(holder, position):
            raise Unknown(position)
    first = upway(footing, one)
    second = upway(footing, other)
    # ROOT is the last of both, so they do meet.
    at = [position for position in first if position in second][0]
    return (at, ahead_of(first, at), ahead_of(second, at))
