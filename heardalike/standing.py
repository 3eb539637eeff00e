"""Which deeds of a set stand, which wait and what they lack, and the table of those that stand."""

from heardalike.footing import footing_of

BARE = (0, (), (), ())


def standing(deeds, *, ground=BARE):
    """The deeds that STAND, rising."""
    return footing_of(deeds, ground).stood


def waiting(deeds, *, ground=BARE):
    """The stamps of the deeds that WAIT, rising, each in a tuple with what it LACKS."""
    return footing_of(deeds, ground).lacking


def table(deeds, *, ground=BARE):
    """The TABLE: of each maker of a standing deed or of a head the greatest count of these."""
    stamps = list(ground[1]) + [deed[0] for deed in standing(deeds, ground=ground)]
    # Of several counts of one maker the greatest is set last.
    return {maker: count for count, maker in sorted(stamps)}
