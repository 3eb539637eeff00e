"""Which standing deeds count, and by which undo the others are undone."""

from heardalike.standing import BARE, standing


def undos_of(stood):
    """Of each standing deed that is UNDONE the greatest undo that counts and names it."""
    told = {}
    # An undo is greater than what it names: by falling stamps it is settled first, and the greatest comes first.
    for stamp, before, words in reversed(stood):
        if words[0] == "undo" and stamp not in told:
            told.setdefault(words[1], stamp)
    return told


def counting(deeds, *, ground=BARE):
    """The stamps of the deeds that COUNT, rising."""
    stood = standing(deeds, ground=ground)
    undos = undos_of(stood)
    return [deed[0] for deed in stood if deed[0] not in undos]


def undone(deeds, *, ground=BARE):
    """The stamps of the deeds that are UNDONE, rising, each in a tuple with its undo's stamp."""
    stood = standing(deeds, ground=ground)
    undos = undos_of(stood)
    return [(deed[0], undos[deed[0]]) for deed in stood if deed[0] in undos]
