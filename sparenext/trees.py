"""Two trees to a house that no fall bars both of."""

from sparenext.nets import falls_of, is_house, pair_of, refuse_houses
from sparenext.sending import ring_or_numbers, sent_on
from sparenext.ways import distances_to, least_way
from sparenext.words import APART_WORDS, refuse_word


def is_tree(net, t, parents):
    """Tell whether a list of parents is a tree to t."""
    if len(parents) != net.count:
        return False
    if not all([_may_be_parent(net, t, house, parents[house]) for house in range(net.count)]):
        return False
    # Nobody but t stops, so whoever does not go in a ring comes to t.
    return ring_or_numbers(parents)[0]


def _may_be_parent(net, t, house, parent):
    if house == t:
        return parent is None
    # A truth would pass for the house 0 or 1.
    if parent is None or isinstance(parent, bool) or not is_house(net.count, parent):
        return False
    return net.weight(house, parent) is not None


def _ties_on(way):
    return [pair_of(way[at], way[at + 1]) for at in range(len(way) - 1)]


def _share(some, others):
    return any([thing in others for thing in some])


def _are_apart(word, way, detour):
    """Tell whether two ways of a house share no tie and, by houses, no house between their ends."""
    if word == "houses" and _share(way[1:-1], detour[1:-1]):
        return False
    return not _share(_ties_on(way), _ties_on(detour))


def _unreached(net, t):
    """Tell the tuple, rising, of all houses without a way to t."""
    sums = distances_to(net, t)
    return tuple([house for house in range(net.count) if sums[house] is None])


def _falls_that_may_bar(net, t, word):
    """Tell the falls that can bar two trees, in the order in which they are to be told."""
    ties = falls_of(net, "tie")
    if word == "ties":
        return ties
    return [fall for fall in falls_of(net, "house") if fall != ("house", t)] + ties


def _barred_by(net, t, fall):
    """Tell the tuple, rising, of all houses that the fallen tie, or the fallen house, bars from t."""
    return tuple([house for house in _unreached(net.without(fall), t) if fall != ("house", house)])


def _bar_of(fall):
    return fall[1] if fall[0] == "house" else (fall[1], fall[2])


def _next_ear(net, order, word):
    """Tell a way from a house in the order by houses that are not to one that is, where nothing bars any house."""
    t = order[0]
    leaving = [(inner, outer) for inner in order for outer in net.neighbours(inner) if outer not in order]
    # The foremost house that can be left, so the ear does not end ahead of it.
    start, house = leaving[0]
    # Apart by houses an ear may not come back to where it left, but to t, where both ways end anyhow.
    fall = ("house", start) if word == "houses" and start != t else ("tie", start, house)
    back = least_way(net.without(fall), house, t)
    ends = [at for at in range(len(back)) if back[at] in order]
    return [start] + back[:ends[0] + 1]


def _put_in(order, one, other, ear):
    """Put the houses of an ear into the order, and let them go back along it in the one tree, on in the other one.

    What a house uses in the one tree is never used in the other tree by that house, nor by any behind it in the order.
    An ear that stands just behind its start, and does not end ahead of it, keeps this so.
    """
    behind = order.index(ear[0]) + 1
    order[behind:behind] = ear[1:-1]
    for at in range(1, len(ear) - 1):
        one[ear[at]] = ear[at - 1]
        other[ear[at]] = ear[at + 1]


def _grown(net, t, word):
    """Tell two trees to t that are apart, where nothing bars any house."""
    one = [None] * net.count
    other = [None] * net.count
    order = [t]
    while len(order) < net.count:
        _put_in(order, one, other, _next_ear(net, order, word))
    return (one, other)


def trees_apart(net, t, word, one, other):
    """Tell whether two lists are trees to t that are apart by ties, or by houses."""
    refuse_houses(net.count, [t])
    refuse_word(word, APART_WORDS)
    if not is_tree(net, t, one) or not is_tree(net, t, other):
        return False
    ways = [(sent_on(one, house, t)[1], sent_on(other, house, t)[1]) for house in range(net.count)]
    return all([_are_apart(word, way, detour) for way, detour in ways])


def two_trees(net, t, word):
    """Tell ("trees", one, other), or ("far", lot) or ("bar", bar, lot) where there are none."""
    refuse_houses(net.count, [t])
    refuse_word(word, APART_WORDS)
    unreached = _unreached(net, t)
    if unreached:
        return ("far", unreached)
    for fall in _falls_that_may_bar(net, t, word):
        lot = _barred_by(net, t, fall)
        if lot:
            return ("bar", _bar_of(fall), lot)
    one, other = _grown(net, t, word)
    return ("trees", one, other)
