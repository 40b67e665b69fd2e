"""Houses that have need and no spare, and the tie that, put in, helps most of them."""

from sparenext.nets import Net, refuse_weight
from sparenext.spares import needed_house, spare_or_none
from sparenext.ways import sums_to_all
from sparenext.words import FALLEN_WORDS, refuse_word


def _bare(net, word):
    sums = sums_to_all(net)
    everybody = range(net.count)
    needy = [(t, a) for t in everybody for a in everybody if needed_house(net, sums, a, t, word) is not None]
    return [(t, a) for t, a in needy if spare_or_none(net, sums, a, t, word) is None]


def _untied_pairs(net):
    everybody = range(net.count)
    return [(a, b) for a in everybody for b in everybody if a < b and net.weight(a, b) is None]


def _left_with(net, pair, weight, word):
    """Tell how many bare pairs are left where a tie of these two houses is put in."""
    more = Net(net.count, list(net.ties) + [(pair[0], pair[1], weight, weight)])
    return len(_bare(more, word))


def bare_pairs(net, word):
    """Tell the list, rising, of all (target, house) where the house has need and no spare."""
    refuse_word(word, FALLEN_WORDS)
    return _bare(net, word)


def best_tie(net, weight, word):
    """Tell (pair, left): the tie, put in with this weight either way, by which the fewest bare pairs are left.

    None where each two houses have a tie.
    """
    refuse_word(word, FALLEN_WORDS)
    refuse_weight(weight)
    ranked = [(_left_with(net, pair, weight, word), pair) for pair in _untied_pairs(net)]
    if not ranked:
        return None
    left, pair = min(ranked)
    return (pair, left)
