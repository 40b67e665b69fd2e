"""Ways, their sums, and the next houses on least ways."""

from sparenext.nets import is_house, refuse_houses


def distances_to(net, t):
    """Tell the list with, for each house, its distance to t, or None where there is no way."""
    sums = [None] * net.count
    sums[t] = 0
    changed = True
    while changed:
        changed = False
        for a, b, there, back in net.ties:
            if _is_nearer_by(sums, a, there, b):
                sums[a] = there + sums[b]
                changed = True
            if _is_nearer_by(sums, b, back, a):
                sums[b] = back + sums[a]
                changed = True
    return sums


def _is_nearer_by(sums, a, weight, b):
    """Tell whether going from a by b, over this weight, gives a lesser sum than the one found so far."""
    if sums[b] is None:
        return False
    return sums[a] is None or weight + sums[b] < sums[a]


def steps_on(net, sums, a):
    """Tell the next houses of a, rising, where sums are the distances to the target."""
    # Weights are from 1 on, so the target itself, at distance 0, is never found to have one.
    return [n for n in net.neighbours(a) if sums[n] is not None and net.weight(a, n) + sums[n] == sums[a]]


def step_on(net, sums, a):
    """Tell the next house of a, or None, where sums are the distances to the target."""
    found = steps_on(net, sums, a)
    return found[0] if found else None


def sums_to_all(net):
    """Tell the list with, for each house, the list of all distances to it."""
    return [distances_to(net, t) for t in range(net.count)]


def goes_over(net, sums, a, e, n, t):
    """Tell whether some least way from n to t, both joined with a and e, goes over the tie from a to e.

    Sums are the distances to all houses.
    """
    return sums[a][n] + net.weight(a, e) + sums[t][e] == sums[t][n]


def _nearest_first(sums):
    """Tell the houses with a way to the target, those with the least distance first."""
    found = sorted([(sums[house], house) for house in range(len(sums)) if sums[house] is not None])
    return [house for _, house in found]


def distance(net, a, t):
    """Tell the sum of the least ways from a to t, or None where there is no way."""
    refuse_houses(net.count, [a, t])
    return distances_to(net, t)[a]


def way_count(net, a, t):
    """Tell how many least ways there are from a to t."""
    refuse_houses(net.count, [a, t])
    sums = distances_to(net, t)
    counts = [0] * net.count
    counts[t] = 1
    for house in _nearest_first(sums):
        if house != t:
            # A next house is nearer to t, so its own count is there already.
            counts[house] = sum([counts[n] for n in steps_on(net, sums, house)])
    return counts[a]


def is_way(net, houses):
    """Tell whether a list of whole numbers is a way from its first to its last house."""
    if not houses or not all([is_house(net.count, house) for house in houses]):
        return False
    if len(set(houses)) != len(houses):
        return False
    return all([net.weight(houses[at], houses[at + 1]) is not None for at in range(len(houses) - 1)])


def next_houses(net, a, t):
    """Tell the list, rising, of the houses with which some least way from a to t goes on."""
    refuse_houses(net.count, [a, t])
    return steps_on(net, distances_to(net, t), a)


def next_house(net, a, t):
    """Tell the least of the next houses of a to t, or None where there is none."""
    refuse_houses(net.count, [a, t])
    return step_on(net, distances_to(net, t), a)


def least_way(net, a, t):
    """Tell the least way from a to t on which each house is followed by its next house, or None."""
    refuse_houses(net.count, [a, t])
    sums = distances_to(net, t)
    if sums[a] is None:
        return None
    houses = [a]
    while houses[-1] != t:
        houses.append(step_on(net, sums, houses[-1]))
    return houses
