"""Nets: houses, and ties between them with a weight either way."""

from sparenext.errors import NoCount, NoHouse, NoTie, NoWeight

LEAST_COUNT = 2
GREATEST_COUNT = 12
LEAST_WEIGHT = 1


def is_house(count, number):
    """Tell whether a number is one of this many houses."""
    return 0 <= number < count


def refuse_houses(count, numbers):
    """Refuse the first of the numbers that is none of this many houses."""
    for number in numbers:
        if not is_house(count, number):
            raise NoHouse(number)


def refuse_untied(net, a, b):
    """Refuse what are no houses, then two houses without a tie."""
    if net.weight(a, b) is None:
        raise NoTie(None)


def refuse_weight(weight):
    """Refuse a weight, handed in by itself, that is none."""
    if weight < LEAST_WEIGHT:
        raise NoWeight(None)


def refuse_unlike_counts(one, other):
    """Refuse two nets that have not as many houses."""
    if one.count != other.count:
        raise NoCount("nets of unlike counts")


def refuse_fall(net, fall):
    """Refuse a fall of what are no houses, then one of two houses without a tie."""
    if fall[0] == "tie":
        refuse_untied(net, fall[1], fall[2])
    else:
        refuse_houses(net.count, [fall[1]])


def falls_with(fall, a, b):
    """Tell whether the tie of two houses falls with a fall."""
    if fall[0] == "tie":
        return pair_of(a, b) == pair_of(fall[1], fall[2])
    return fall[1] in (a, b)


def falls_of(net, word):
    """Tell all falls of a tie, or of a house, of a net, each tie with its lesser house first, rising."""
    if word == "tie":
        return [("tie", tie[0], tie[1]) for tie in net.ties]
    return [("house", house) for house in range(net.count)]


def pair_of(a, b):
    """Tell two houses with the lesser one first."""
    return (min(a, b), max(a, b))


def _refuse_count(count):
    if count < LEAST_COUNT or count > GREATEST_COUNT:
        raise NoCount(f"a net has from {LEAST_COUNT} to {GREATEST_COUNT} houses")


def _refuse_pairs(ties):
    seen = set()
    for place, tie in enumerate(ties):
        pair = pair_of(tie[0], tie[1])
        if tie[0] == tie[1] or pair in seen:
            raise NoTie(place)
        seen.add(pair)


def _refuse_weights(ties):
    for place, tie in enumerate(ties):
        if tie[2] < LEAST_WEIGHT or tie[3] < LEAST_WEIGHT:
            raise NoWeight(place)


def _refuse_ties(count, ties):
    # Each refusal is sought in the whole list before the next kind is sought at all.
    refuse_houses(count, [house for tie in ties for house in (tie[0], tie[1])])
    _refuse_pairs(ties)
    _refuse_weights(ties)


def _lesser_first(tie):
    """Tell the same tie with the lesser house first, and its weights so."""
    a, b, there, back = tie
    if a < b:
        return (a, b, there, back)
    return (b, a, back, there)


def _weights_of(ties):
    """Tell the weights of ties as a dict, either way."""
    weights = {}
    for a, b, there, back in ties:
        weights[(a, b)] = there
        weights[(b, a)] = back
    return weights


class Net:
    """Houses from 0 to count less one, and ties (a, b, there, back), a below b, rising."""

    def __init__(self, count, ties):
        _refuse_count(count)
        _refuse_ties(count, ties)
        self.count = count
        self.ties = tuple(sorted([_lesser_first(tie) for tie in ties]))
        self._weights = _weights_of(self.ties)

    def neighbours(self, a):
        """Tell the list, rising, of all houses with a tie to a."""
        refuse_houses(self.count, [a])
        return [b for b in range(self.count) if (a, b) in self._weights]

    def weight(self, a, b):
        """Tell the weight from a to b, or None where they have no tie."""
        refuse_houses(self.count, [a, b])
        return self._weights.get((a, b))

    def without(self, fall):
        """Tell the net without a fallen tie ("tie", a, b) or without the ties of a fallen ("house", e)."""
        refuse_fall(self, fall)
        return Net(self.count, [tie for tie in self.ties if not falls_with(fall, tie[0], tie[1])])


def weighed(net, a, b, weight):
    """Tell the net with another weight from a to b, two houses with a tie."""
    others = [tie for tie in net.ties if pair_of(a, b) != pair_of(tie[0], tie[1])]
    return Net(net.count, others + [(a, b, weight, net.weight(b, a))])
