"""Steps of a tie's weight, how far it can go with nothing changed, and what a changed net has changed."""

from sparenext.changing import change_or_ring
from sparenext.errors import NoWeight
from sparenext.nets import refuse_houses, refuse_unlike_counts, refuse_untied, refuse_weight, weighed
from sparenext.sending import next_table
from sparenext.ways import distances_to, step_on

GREATEST_STEP = 60


def _refuse_step(weight):
    refuse_weight(weight)
    if weight > GREATEST_STEP:
        raise NoWeight(None)


def _tables(net, targets):
    return [next_table(net, t) for t in targets]


def _are_calm(tables, others):
    """Tell whether for no target a ring can arise between its table here and its table there."""
    return all([old == new or change_or_ring(old, new)[0] == "falls" for old, new in zip(tables, others)])


def _fewest_steps(tables, now, weight):
    """Tell one of the shortest lists of weights from now to weight, each two neighbours with calm tables.

    Tables has the weights that may be gone by, and with each the tables to all targets.
    """
    found = [[now]]
    reached = {now}
    at = 0
    # Shorter lists stand ahead of longer ones, so the first that comes to the weight is one of the shortest.
    while found[at][-1] != weight:
        for other in tables:
            if other not in reached and _are_calm(tables[found[at][-1]], tables[other]):
                reached.add(other)
                found.append(found[at] + [other])
        at = at + 1
    return found[at]


def weight_steps(net, a, b, weight, targets):
    """Tell as few weights from a to b as can be, from that of now on, between which no ring to a target can arise."""
    refuse_houses(net.count, [a, b] + targets)
    refuse_untied(net, a, b)
    _refuse_step(weight)
    now = net.weight(a, b)
    asked = sorted(set(targets))
    between = range(min(now, weight), max(now, weight) + 1)
    return _fewest_steps({step: _tables(weighed(net, a, b, step), asked) for step in between}, now, weight)


def _last_alike(net, a, b, far):
    """Tell the weight from a to b nearest to far with which all next houses are those of now.

    Between two least ways, one over the tie and one not, a house turns once as the weight grows, never back. So the
    weights with which all next houses are those of now stand side by side, and halving finds where they end.
    """
    everybody = list(range(net.count))
    kept = _tables(net, everybody)
    if _tables(weighed(net, a, b, far), everybody) == kept:
        return far
    alike = net.weight(a, b)
    unlike = far
    while abs(unlike - alike) > 1:
        middle = (alike + unlike) // 2
        if _tables(weighed(net, a, b, middle), everybody) == kept:
            alike = middle
        else:
            unlike = middle
    return alike


def weight_stretch(net, a, b):
    """Tell the least and the greatest weight from a to b with which all next houses stay, None for no greatest."""
    refuse_untied(net, a, b)
    # With a weight above all sums nobody sends over the tie who can do without it, and no greater one changes that.
    beyond = 1 + sum([there + back for _, _, there, back in net.ties])
    high = _last_alike(net, a, b, beyond)
    return (_last_alike(net, a, b, 1), None if high == beyond else high)


def _seen(net, t):
    """Tell the list with, for each house, its next house and its distance to t."""
    sums = distances_to(net, t)
    return [(step_on(net, sums, house), sums[house]) for house in range(net.count)]


def reached_pairs(one, other):
    """Tell the list, rising, of all (target, house) whose next house or distance is unlike in both nets."""
    refuse_unlike_counts(one, other)
    pairs = []
    for t in range(one.count):
        old = _seen(one, t)
        new = _seen(other, t)
        pairs.extend([(t, house) for house in range(one.count) if old[house] != new[house]])
    return pairs
