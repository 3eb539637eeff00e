"""Which things are made, how they lie, which moves are skipped and by which way."""

from heardalike.deeds import target_of, thing_of
from heardalike.stamps import is_field
from heardalike.standing import BARE, standing
from heardalike.undoing import undos_of


def at_first(counted, ground):
    """How each MADE thing lies ahead of all deeds: as the ground tells, or nowhere."""
    lying = {stamp: lie for stamp, what, made, lie in ground[2] if made}
    for stamp, before, words in counted:
        if words[0] == "put":
            lying[stamp] = None
    return lying


def way_between(lying, parent, thing):
    """The WAY from a parent up to a thing in which it lies, or None where it doesn't lie in it."""
    way = []
    at = parent
    while at != thing:
        lie = lying.get(at)
        # Here ROOT ends the way, and what isn't made or lies nowhere.
        if lie is None:
            return None
        way.append((at, lie[2]))
        at = lie[0]
    way.append((thing, None))
    return way


def lie_by(deed):
    """How a thing lies that a put or a move lays."""
    parent, place = target_of(deed)
    # A deed that stands has a FIELD as its place in ROOT and in objects, and nowhere else.
    return (parent, place if is_field(place) else "", deed[0])


def laid(stood, ground):
    """How each made thing lies, and the SKIPPED moves, rising, each in a tuple with its way."""
    undos = undos_of(stood)
    counted = [deed for deed in stood if deed[0] not in undos]
    lying = at_first(counted, ground)
    ways = []
    for deed in counted:
        thing = thing_of(deed)
        if thing not in lying:
            continue
        if deed[2][0] == "take":
            lying[thing] = None
            continue
        way = way_between(lying, target_of(deed)[0], thing)
        if way is None:
            lying[thing] = lie_by(deed)
        else:
            ways.append((deed[0], way))
    return (lying, ways)


def depth_in(lying, thing):
    """The DEPTH of a thing."""
    depth = 0
    lie = lying.get(thing)
    while lie is not None:
        depth += 1
        lie = lying.get(lie[0])
    return depth


def lies(deeds, *, ground=BARE):
    """Of each made thing how it LIES: None, or a tuple (parent, field, position)."""
    return laid(standing(deeds, ground=ground), ground)[0]


def skipped(deeds, *, ground=BARE):
    """The stamps of the SKIPPED moves, rising, each in a tuple with its WAY."""
    return laid(standing(deeds, ground=ground), ground)[1]


def depths(deeds, *, ground=BARE):
    """Of each made thing its DEPTH."""
    lying = lies(deeds, ground=ground)
    return {thing: depth_in(lying, thing) for thing in lying}
