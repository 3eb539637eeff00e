"""Clean numbers of a set, and the ground that is told in the place of the deeds up to one."""

from heardalike.deeds import target_of, thing_of
from heardalike.errors import NotClean
from heardalike.orders import order_in
from heardalike.stamps import ROOT, is_whole
from heardalike.standing import BARE, standing
from heardalike.trees import Tree


def undo_spans(deeds, ground):
    """Of each standing undo the count of what it names, and its own count."""
    stood = standing(deeds, ground=ground)
    return [(words[1][0], stamp[0]) for stamp, before, words in stood if words[0] == "undo"]


def is_outside(spans, number):
    """Whether no undo of a count above this number names a stamp of a count up to it."""
    return not any([low <= number < high for low, high in spans])


def is_clean(deeds, upto, *, ground=BARE):
    """Whether this number is CLEAN."""
    return is_whole(upto) and upto >= ground[0] and is_outside(undo_spans(deeds, ground), upto)


def cleaned(deeds, upto, *, ground=BARE):
    """The greatest clean number up to this one, which is not less than the ground's upto."""
    spans = undo_spans(deeds, ground)
    # Where a clean number has a next one that isn't, some undo names a stamp of the count of that one.
    numbers = [upto] + [low - 1 for low, high in spans if low <= upto]
    return max([number for number in numbers if is_outside(spans, number)])


def heads_of(tree, above):
    """The stamps below, rising, that are a before of a deed above, or the greatest one of their maker."""
    stamps = sorted(list(tree.footing.heads) + [deed[0] for deed in tree.footing.stood])
    befores = {(before, stamp[1]): True for stamp, before, words in above}
    # Of several stamps of one maker the greatest is set last.
    lasts = {stamp[1]: stamp for stamp in stamps}
    return tuple([stamp for stamp in stamps if stamp in befores or lasts[stamp[1]] == stamp])


def things_named(tree, above):
    """The things below that a deed above names as its thing or its parent."""
    stamps = [thing_of(deed) for deed in above]
    stamps += [target_of(deed)[0] for deed in above if target_of(deed) is not None]
    return [stamp for stamp in stamps if stamp in tree.footing.whats]


def kept_of(tree, above):
    """A dict of ROOT and the KEPT things."""
    kept = {}
    ahead = [ROOT] + things_named(tree, above)
    while ahead:
        thing = ahead.pop()
        if thing not in kept:
            kept[thing] = True
            ahead.extend(list(tree.within.get(thing, {}).values()))
    return kept


def thing_row(tree, thing, kept):
    """What a ground tells of a kept thing."""
    lie = tree.lying.get(thing)
    if lie is not None and lie[0] not in kept:
        lie = None
    return (thing, tree.footing.whats[thing], thing in tree.lying, lie)


def positions_of(tree, holder, above):
    """Those positions of a kept list or text by which things lie in it, or which a deed above has as its place."""
    targets = {target_of(deed): True for deed in above}
    inner = tree.within.get(holder, {})
    order = order_in(tree.footing, holder)
    return tuple([position for position in order if position in inner or (holder, position) in targets])


def ground_of(deeds, upto, *, ground=BARE):
    """The ground of a set for a clean number, or NotClean."""
    if not is_clean(deeds, upto, ground=ground):
        raise NotClean(upto)
    stood = standing(deeds, ground=ground)
    above = [deed for deed in stood if deed[0][0] > upto]
    tree = Tree([deed for deed in stood if deed[0][0] <= upto], ground)
    kept = kept_of(tree, above)
    things = [thing for thing in sorted(kept) if thing != ROOT]
    rows = [(thing, positions_of(tree, thing, above)) for thing in things if tree.kind_of(thing) in ("list", "text")]
    return (
        upto,
        heads_of(tree, above),
        tuple([thing_row(tree, thing, kept) for thing in things]),
        tuple([row for row in rows if row[1]]),
    )
