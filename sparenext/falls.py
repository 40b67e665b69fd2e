"""Falls: how all send when a tie or a house has fallen."""

from sparenext.errors import NoNeed
from sparenext.nets import falls_with, refuse_fall, refuse_houses
from sparenext.sending import sent_on
from sparenext.spares import spare_or_none
from sparenext.ways import distances_to, step_on, sums_to_all


def refuse_fallen_target(net, t, fall):
    """Refuse what are no houses or no tie, then a target that has fallen itself."""
    refuse_houses(net.count, [t])
    refuse_fall(net, fall)
    if _is_fallen_house(fall, t):
        raise NoNeed("the target has fallen")


def _is_fallen_house(fall, house):
    return fall[0] == "house" and fall[1] == house


def _sent_then(net, sums, a, t, fall):
    """Tell to which house a sends with the fall, or None, where sums are the distances to all houses."""
    e = step_on(net, sums[t], a)
    if e is None or not falls_with(fall, a, e):
        return e
    if _is_fallen_house(fall, a):
        return None
    return spare_or_none(net, sums, a, t, fall[0])


def table_then(net, sums, t, fall):
    """Tell the table by which all send to t with a fall that may be asked about, sums as above."""
    return [_sent_then(net, sums, a, t, fall) for a in range(net.count)]


def fallen_table(net, t, fall):
    """Tell the table by which all send to t with the fall."""
    refuse_fallen_target(net, t, fall)
    return table_then(net, sums_to_all(net), t, fall)


def walked_all(net, t, fall):
    """Tell the list with, for each house, how its sending to t goes with the fall."""
    table = fallen_table(net, t, fall)
    return [sent_on(table, start, t) for start in range(net.count)]


def lost_houses(net, t, fall):
    """Tell the list, rising, of the houses that have a way to t without the fall, but whose sending does not come."""
    walked = walked_all(net, t, fall)
    left = distances_to(net.without(fall), t)
    return [house for house in range(net.count) if walked[house][0] != "comes" and left[house] is not None]
