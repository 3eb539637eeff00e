"""What is shown of a set, and of things that lie beside the first one at a field."""

from heardalike.paths import led_to_kind
from heardalike.stamps import ROOT, is_field
from heardalike.standing import BARE
from heardalike.trees import Tree


def things_from(tree, top):
    """A thing, or ROOT, and all that is shown in it, each behind the one in which it lies."""
    told = []
    ahead = [top]
    while ahead:
        thing = ahead.pop()
        told.append(thing)
        ahead.extend(tree.shown_in(thing))
    return told


def value_in(tree, thing, values):
    """What is SHOWN of a thing, or of ROOT, where that of all within it is told already."""
    kind = tree.kind_of(thing)
    if kind == "object":
        firsts = tree.firsts(thing)
        return {field: values[firsts[field]] for field in firsts}
    if kind == "list":
        return [values[inner] for inner in tree.in_row(thing)]
    if kind == "text":
        return "".join([values[inner] for inner in tree.in_row(thing)])
    return tree.footing.whats[thing][1]


def shown_of(tree, top):
    """What is SHOWN of a thing, or of ROOT."""
    values = {}
    # Told backwards, from within, and not by calls: holders may lie deeper than calls should go.
    for thing in reversed(things_from(tree, top)):
        values[thing] = value_in(tree, thing, values)
    return values[top]


def shown(deeds, *, ground=BARE):
    """What is SHOWN of a set: a dict."""
    return shown_of(Tree(deeds, ground), ROOT)


def beside(deeds, path, field, *, ground=BARE):
    """What is shown of the things that lie BESIDE the first one at a field, by falling positions; or NoPath."""
    tree = Tree(deeds, ground)
    holder = led_to_kind(tree, path, ("object",))
    if not is_field(field):
        return []
    return [shown_of(tree, thing) for thing in tree.at_field(holder, field)[1:]]
