"""Paths: to which thing one leads, and which one leads to a thing."""

from heardalike.errors import NoPath
from heardalike.stamps import ROOT, is_root, is_stamp
from heardalike.standing import BARE
from heardalike.trees import Tree


def led_to(tree, path):
    """The thing to which a PATH leads, or ROOT; or NoPath."""
    at = ROOT
    for number, step in enumerate(path):
        at = tree.thing_by(at, step)
        if at is None:
            raise NoPath(path, number)
    return at


def led_to_kind(tree, path, kinds):
    """The thing of one of these kinds, ROOT as an object, to which a path leads; or NoPath."""
    thing = led_to(tree, path)
    if tree.kind_of(thing) not in kinds:
        raise NoPath(path, len(path))
    return thing


def path_to(tree, thing):
    """The path that leads to a thing, or None."""
    path = []
    at = thing
    while at != ROOT:
        step = None if tree.lying.get(at) is None else tree.step_to(at)
        if step is None:
            return None
        path.insert(0, step)
        at = tree.lying[at][0]
    return path


def thing_at(deeds, path, *, ground=BARE):
    """The stamp of the thing to which a PATH leads, or ROOT; or NoPath."""
    return led_to(Tree(deeds, ground), path)


def path_of(deeds, thing, *, ground=BARE):
    """The path that leads to a thing, [] to ROOT; or None where none does."""
    if not is_root(thing) and not is_stamp(thing):
        return None
    return path_to(Tree(deeds, ground), thing)
