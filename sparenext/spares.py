"""Spares: to which neighbour a house sends when its next house, or the tie with it, has fallen."""

from sparenext.errors import NoNeed
from sparenext.nets import refuse_houses
from sparenext.ways import least_way, step_on, sums_to_all
from sparenext.words import FALLEN_WORDS, refuse_word


def needed_house(net, sums, a, t, word):
    """Tell the next house of a to t where a has need of it, or of the tie with it, else None.

    Sums are, here and below, the distances to all houses.
    """
    e = step_on(net, sums[t], a)
    if word == "house" and e == t:
        return None
    return e


def spares_among(net, sums, a, t, word):
    """Tell the list, rising, of all spares of a house that has the need."""
    e = step_on(net, sums[t], a)
    return [n for n in _others(net, a, e) if _house_met(sums, n, t, _shunned(a, e, word)) is None]


def spare_or_none(net, sums, a, t, word):
    """Tell the spare of a to t, or None where it has no need or no spare."""
    if needed_house(net, sums, a, t, word) is None:
        return None
    ranked = [(net.weight(a, n) + sums[t][n], n) for n in spares_among(net, sums, a, t, word)]
    return min(ranked)[1] if ranked else None


def _others(net, a, e):
    """Tell the list, rising, of the neighbours of a but e."""
    return [n for n in net.neighbours(a) if n != e]


def _shunned(a, e, word):
    """Tell the houses by which no least way of a spare goes."""
    return [a, e] if word == "house" else [a]


def _house_met(sums, n, t, houses):
    """Tell the first of these houses by which some least way from n to t goes, or None."""
    for house in houses:
        if sums[house][n] + sums[t][house] == sums[t][n]:
            return house
    return None


def _way_by(net, n, house, t):
    """Tell a least way from n to t by a house that stands on one."""
    return least_way(net, n, house) + least_way(net, house, t)[1:]


def _rows(net, sums, a, t, word):
    """Tell for each neighbour that is no spare a least way of it that shows why."""
    e = step_on(net, sums[t], a)
    shunned = _shunned(a, e, word)
    return [(n, _way_by(net, n, _house_met(sums, n, t, shunned), t)) for n in _others(net, a, e)]


def _sums_for(net, a, t, word):
    """Tell the distances to all houses; refuse what cannot be asked of the spares of a to t."""
    refuse_houses(net.count, [a, t])
    refuse_word(word, FALLEN_WORDS)
    sums = sums_to_all(net)
    if needed_house(net, sums, a, t, word) is None:
        raise NoNeed(f"no need of the next {word}")
    return sums


def spares_of(net, a, t, word):
    """Tell the list, rising, of all spares of a to t for the fallen tie or house."""
    sums = _sums_for(net, a, t, word)
    return spares_among(net, sums, a, t, word)


def spare_of(net, a, t, word):
    """Tell (True, spare), or (False, rows) of each other neighbour and a least way of it that comes back."""
    sums = _sums_for(net, a, t, word)
    spare = spare_or_none(net, sums, a, t, word)
    if spare is None:
        return (False, _rows(net, sums, a, t, word))
    return (True, spare)


def spares_told(net, t, word):
    """Tell the list with, for each house, its spare to t, or None where it has no need or no spare."""
    refuse_houses(net.count, [t])
    refuse_word(word, FALLEN_WORDS)
    sums = sums_to_all(net)
    return [spare_or_none(net, sums, a, t, word) for a in range(net.count)]
