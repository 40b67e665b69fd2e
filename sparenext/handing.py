"""Handing over: who, farther off, brings on to the other house what a fallen tie carried."""

from sparenext.errors import NotLike
from sparenext.nets import falls_with, refuse_untied
from sparenext.ways import distances_to, goes_over, least_way, sums_to_all


def _refuse_unlike(net):
    """Refuse a net with a tie whose weights there and back are unlike."""
    for a, b, there, back in net.ties:
        if there != back:
            raise NotLike((a, b))


def _near(net, sums, a, e):
    reached = [p for p in range(net.count) if sums[p][a] is not None]
    return [p for p in reached if not goes_over(net, sums, a, e, a, p)]


def _far(net, sums, a, e):
    reaching = [q for q in range(net.count) if sums[e][q] is not None]
    return [q for q in reaching if not goes_over(net, sums, a, e, q, e)]


def _joined_with(net, a):
    """Tell the tuple, rising, of all houses to which there is a way from a."""
    sums = distances_to(net, a)
    return tuple([house for house in range(net.count) if sums[house] is not None])


def near_houses(net, a, e):
    """Tell the list, rising, of the houses to which no least way from a goes over the tie to e."""
    refuse_untied(net, a, e)
    return _near(net, sums_to_all(net), a, e)


def far_houses(net, a, e):
    """Tell the list, rising, of the houses from which no least way to e goes over the tie from a."""
    refuse_untied(net, a, e)
    return _far(net, sums_to_all(net), a, e)


def handed_over(net, a, e):
    """Tell ("over", p) or ("over", p, q) where a can hand over to when the tie has fallen, else ("cut", lot)."""
    refuse_untied(net, a, e)
    _refuse_unlike(net)
    sums = sums_to_all(net)
    near = _near(net, sums, a, e)
    far = _far(net, sums, a, e)
    both = [house for house in near if house in far]
    if both:
        return ("over", both[0])
    fall = ("tie", a, e)
    tied = [(p, q) for p in near for q in far if net.weight(p, q) is not None and not falls_with(fall, p, q)]
    if tied:
        return ("over", tied[0][0], tied[0][1])
    return ("cut", _joined_with(net.without(fall), a))


def handed_way(net, a, e):
    """Tell the list of the houses of the walk from a to e by whom it is handed over to, or None where it is cut."""
    told = handed_over(net, a, e)
    if told[0] == "cut":
        return None
    first = told[1]
    last = told[-1]
    onward = least_way(net, last, e)
    # Where it is handed over to one house alone, the way on begins with that very house.
    if first == last:
        onward = onward[1:]
    return least_way(net, a, first) + onward
