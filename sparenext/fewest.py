"""The fewest spares of a tie that serve all its targets."""

from itertools import combinations

from sparenext.nets import refuse_untied
from sparenext.spares import spares_among
from sparenext.ways import goes_over, step_on, sums_to_all


def _targets(net, sums, a, e):
    return [t for t in range(net.count) if step_on(net, sums[t], a) == e]


def _serves_one_of(some, spares):
    return any([n in some for n in spares])


def _fewest_serving(neighbours, wanted):
    """Tell the least of the smallest tuples of neighbours that have one of each wanted list of spares."""
    for many in range(len(neighbours) + 1):
        # Of one size the tuples come rising, so the first that serves is the least.
        for some in combinations(neighbours, many):
            if all([_serves_one_of(some, spares) for spares in wanted]):
                return some


def tie_targets(net, a, e):
    """Tell the list, rising, of the houses to which a sends by e."""
    refuse_untied(net, a, e)
    return _targets(net, sums_to_all(net), a, e)


def tie_servers(net, a, e):
    """Tell the list, rising, of the neighbours of a but e that serve each target of the tie from a to e."""
    refuse_untied(net, a, e)
    sums = sums_to_all(net)
    return [n for n in net.neighbours(a) if n != e and not goes_over(net, sums, a, e, n, e)]


def fewest_spares(net, a, e):
    """Tell as few neighbours of a as serve all targets that have a spare, and which of them serves each target."""
    refuse_untied(net, a, e)
    sums = sums_to_all(net)
    spares = [(t, spares_among(net, sums, a, t, "tie")) for t in _targets(net, sums, a, e)]
    some = _fewest_serving(net.neighbours(a), [found for _, found in spares if found])
    return (some, [(t, min([n for n in found if n in some], default=None)) for t, found in spares])
