"""Loads: how many sendings go over each tie, either way, with a fall or none."""

from sparenext.falls import table_then
from sparenext.nets import falls_of
from sparenext.sending import next_table, sent_on
from sparenext.ways import sums_to_all
from sparenext.words import FALLEN_WORDS, refuse_word


def _table(net, sums, t, fall):
    return next_table(net, t) if fall is None else table_then(net, sums, t, fall)


def _walks(net, sums, fall):
    """Tell the houses of each sending, from each house that stands to each other one, as far as it goes."""
    standing = [house for house in range(net.count) if fall != ("house", house)]
    walks = []
    for t in standing:
        table = _table(net, sums, t, fall)
        walks.extend([sent_on(table, start, t)[1] for start in standing if start != t])
    return walks


def _loads_with(net, sums, fall):
    """Tell the list, rising, of the loads by a fall or none, where sums are the distances to all houses."""
    # What is no house or no tie in a fall is refused here, ahead of all sendings.
    left = net if fall is None else net.without(fall)
    counts = {}
    for a, b, _, _ in left.ties:
        counts[(a, b)] = 0
        counts[(b, a)] = 0
    for houses in _walks(net, sums, fall):
        for at in range(len(houses) - 1):
            counts[(houses[at], houses[at + 1])] += 1
    return [(a, b, counts[(a, b)]) for a, b in sorted(counts)]


def loads(net, fall):
    """Tell the list, rising, of (a, b, load) for each tie without the fall, or None for no fall, either way."""
    return _loads_with(net, sums_to_all(net), fall)


def heaviest(net, word):
    """Tell (fall, a, b, load) of the greatest load behind some fall of a tie, or of a house, or None."""
    refuse_word(word, FALLEN_WORDS)
    sums = sums_to_all(net)
    ranked = [(-load, fall, a, b) for fall in falls_of(net, word) for a, b, load in _loads_with(net, sums, fall)]
    if not ranked:
        return None
    less, fall, a, b = min(ranked)
    return (fall, a, b, -less)
