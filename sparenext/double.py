"""Sending by two trees: by the second one from where something of the first one has fallen."""

from sparenext.errors import NoNeed, NoTree
from sparenext.nets import falls_with, refuse_fall, refuse_houses
from sparenext.trees import is_tree


def _refuse_falls(net, t, start, falls):
    # All houses ahead of all ties, so the falls are gone through twice.
    refuse_houses(net.count, [t, start] + [house for fall in falls for house in fall[1:]])
    for fall in falls:
        refuse_fall(net, fall)


def _refuse_fallen_ends(t, start, falls):
    if ("house", start) in falls or ("house", t) in falls:
        raise NoNeed("the start or the target has fallen")


def _is_barred(falls, house, parent):
    """Tell whether the parent of a house that stands, or the tie to it, has fallen."""
    return any([falls_with(fall, house, parent) for fall in falls])


def doubled(net, t, one, other, start, falls):
    """Tell how a sending goes by two trees to t, comes or stops, and the list of the houses that it goes through."""
    _refuse_falls(net, t, start, falls)
    if not is_tree(net, t, one) or not is_tree(net, t, other):
        raise NoTree("a list of parents is no tree to the target")
    _refuse_fallen_ends(t, start, falls)
    houses = [start]
    parents = one
    while houses[-1] != t:
        here = houses[-1]
        if _is_barred(falls, here, parents[here]):
            # There is no third tree: who can't go on by the second one either stops.
            parents = other
            if _is_barred(falls, here, other[here]):
                return ("stops", houses)
        houses.append(parents[here])
    return ("comes", houses)
