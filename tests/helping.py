"""What the tests share: how a refusal is looked at, nets to try, and answers found by plain search."""

import copy
import functools
import random
import unittest

from sparenext.errors import (NoCount, NoHouse, NoLine, NoName, NoNeed, NoText, NoTie, NoTree, NotLike, NoWeight,
                              NoWord, SpareError)
from sparenext.nets import Net

LISTED = (NoCount, NoWord, NoNeed, NoTree, NoLine, NoHouse, NoTie, NoWeight, NotLike, NoText, NoName)

FORTY = int("9" * 40)

# Pairs of a count and ties.
TWO = (2, [(0, 1, 3, 5)])
TWO_BARE = (2, [])
LINE = (4, [(0, 1, 2, 2), (1, 2, 1, 5), (2, 3, 4, 4)])
UNLIKE_RING = (4, [(0, 1, 1, 9), (1, 2, 1, 9), (2, 3, 1, 9), (0, 3, 9, 1)])
SQUARES = (6, [(0, 1, 1, 1), (0, 2, 1, 1), (1, 3, 1, 1), (2, 3, 1, 1), (3, 4, 2, 2), (3, 5, 1, 1), (4, 5, 1, 1)])
PARTED = (7, [(0, 1, 2, 3), (1, 2, 2, 3), (0, 2, 4, 4), (4, 5, 1, 7)])
TWELVE_LINE = (12, [(house, house + 1, house + 1, 20 - house) for house in range(11)])
# Any rising list of houses from 0 to 11 is a least way here.
TWELVE_WHOLE = (12, [(a, b, b - a, b - a) for a in range(12) for b in range(a + 1, 12)])
TWELVE_RING = (12, [(house, (house + 1) % 12, 1, 1) for house in range(12)])
HUGE = (3, [(0, 1, FORTY, 1), (1, 2, FORTY, FORTY), (0, 2, FORTY, FORTY - 1)])


def random_nets(seed, many, most):
    """Tells pairs of a count and ties, the same ones for the same seed; small weights make many ways alike."""
    chance = random.Random(seed)
    told = []
    for _ in range(many):
        count = chance.randint(2, most)
        ties = []
        for a in range(count):
            for b in range(a + 1, count):
                if chance.random() < 0.55:
                    tie = (a, b, chance.randint(1, 3), chance.randint(1, 3))
                    ties.append(tie if chance.random() < 0.5 else (b, a, tie[3], tie[2]))
        chance.shuffle(ties)
        told.append((count, ties))
    return told


SMALL = [TWO, TWO_BARE, LINE, UNLIKE_RING, SQUARES, PARTED, HUGE] + random_nets(7, 60, 6)
LARGE = [TWELVE_LINE, TWELVE_WHOLE, TWELVE_RING] + random_nets(11, 12, 12)


def weights_of(ties):
    """Tells the weights of a list of ties, either way, without the program."""
    weights = {}
    for a, b, there, back in ties:
        weights[a, b] = there
        weights[b, a] = back
    return weights


def all_ways(ties, a, t):
    """Tells all ways from a to t as pairs of a sum and a list, without the program."""
    weights = weights_of(ties)
    found = []

    def go_on(houses, total):
        if houses[-1] == t:
            found.append((total, houses))
            return
        for (here, there), weight in weights.items():
            if here == houses[-1] and there not in houses:
                go_on(houses + [there], total + weight)

    go_on([a], 0)
    return found


def least_ways(ties, a, t):
    """Tells the least sum, or None, and all least ways, rising, without the program."""
    found = all_ways(ties, a, t)
    if not found:
        return None, []
    least = min(total for total, _ in found)
    return least, sorted(houses for total, houses in found if total == least)


def all_distances(count, ties):
    """Tells the distance for each pair of houses, None where there is no way; the answer is not to be changed."""
    return distances_by_pairs(count, tuple(ties))


@functools.lru_cache(maxsize=None)
def distances_by_pairs(count, ties):
    """Tells all distances, house by house gone through, and keeps them, since they are asked for over and over."""
    sums = {(a, b): 0 if a == b else None for a in range(count) for b in range(count)}
    sums.update(weights_of(ties))
    for through in range(count):
        for a in range(count):
            for b in range(count):
                first, second = sums[a, through], sums[through, b]
                if first is not None and second is not None:
                    if sums[a, b] is None or first + second < sums[a, b]:
                        sums[a, b] = first + second
    return sums


def plain_next(count, ties, sums, a, t):
    """Tells the next house, or None, where sums are what all_distances tells; without the program."""
    if a == t or sums[a, t] is None:
        return None
    weights = weights_of(ties)
    for n in range(count):
        if (a, n) in weights and sums[n, t] is not None and weights[a, n] + sums[n, t] == sums[a, t]:
            return n


def plain_table(count, ties, t):
    """Tells the table of next houses, without the program."""
    sums = all_distances(count, ties)
    return [plain_next(count, ties, sums, a, t) for a in range(count)]


def plain_need(count, ties, sums, a, t, word):
    """Tells the next house of which, or of the tie with which, there is need, or None; without the program."""
    e = plain_next(count, ties, sums, a, t)
    return None if word == "house" and e == t else e


def plain_spare(count, ties, sums, a, t, word):
    """Tells the spare where there is need and one is left, else None, without the program."""
    e = plain_need(count, ties, sums, a, t, word)
    if e is None:
        return None
    weights = weights_of(ties)
    found = []
    for n in range(count):
        if (a, n) in weights and n != e and sums[n, t] < sums[n, a] + sums[a, t]:
            if word == "tie" or sums[n, t] < sums[n, e] + sums[e, t]:
                found.append((weights[a, n] + sums[n, t], n))
    return min(found)[1] if found else None


def hits(fall, a, e):
    """Tells whether what a sends to e over its tie meets the fall."""
    if fall[0] == "house":
        return e == fall[1]
    return sorted((a, e)) == sorted(fall[1:])


def ties_left(ties, fall):
    """Tells the ties that a fall leaves."""
    return [tie for tie in ties if not (fall[1] in tie[:2] if fall[0] == "house" else hits(fall, *tie[:2]))]


def plain_fallen_table(count, ties, t, fall):
    """Tells the table by which all send with a fall, without the program."""
    sums = all_distances(count, ties)
    told = []
    for a in range(count):
        e = plain_next(count, ties, sums, a, t)
        if fall == ("house", a):
            e = None
        elif e is not None and hits(fall, a, e):
            e = plain_spare(count, ties, sums, a, t, fall[0])
        told.append(e)
    return told


def plain_walk(table, start, target):
    """Tells the houses that a sending goes through, by the steps alone, where there is no ring."""
    houses = [start]
    while houses[-1] != target and table[houses[-1]] is not None:
        houses.append(table[houses[-1]])
    return houses


def ring_between(old, new):
    """Tells whether a ring can arise while tables change, by taking away again and again who can only stop."""
    left = set(range(len(old)))
    while True:
        kept = {house for house in left if old[house] in left or new[house] in left}
        if kept == left:
            return bool(left)
        left = kept


def random_table(chance, count):
    """Tells a table of this many houses by a source of chance of the test's own."""
    return [chance.choice([None] + list(range(count))) for _ in range(count)]


def goes_in_a_ring(table):
    """Tells whether some house goes on and on, by the steps alone."""
    for house in range(len(table)):
        for _ in range(len(table)):
            house = None if house is None else table[house]
        if house is not None:
            return True
    return False


def lists_in(told):
    """Tells all lists in an answer: itself, and those in its lists and tuples."""
    found = [told] if isinstance(told, list) else []
    if isinstance(told, (list, tuple)):
        for thing in told:
            found += lists_in(thing)
    return found


def all_falls(count, ties):
    """Tells all falls of a net, ties from either house; of a large net each tie from one of its houses."""
    falls = [("house", house) for house in range(count)]
    for a, b, _, _ in ties:
        if count <= 7 or (a + b) % 2:
            falls.append(("tie", a, b))
        if count <= 7 or not (a + b) % 2:
            falls.append(("tie", b, a))
    return falls


class Case(unittest.TestCase):
    """A test case that looks closely at refusals and at what is handed in."""

    def net(self, pair):
        return Net(pair[0], list(pair[1]))

    def refused(self, kind, fields, call, *handed):
        """Looks that a call is refused with just this class and these fields, and changes nothing."""
        before = copy.deepcopy([thing for thing in handed if not isinstance(thing, Net)])
        told = []
        for caught in (kind, SpareError, ValueError):
            try:
                call(*handed)
            except caught as error:
                told.append(error)
            else:
                self.fail(f"not refused: {call} of {handed}")
        for error in told:
            self.assertIs(type(error), kind)
            for other in LISTED:
                self.assertEqual(isinstance(error, other), other is kind)
            for field, worth in fields.items():
                self.assertEqual(getattr(error, field), worth)
                self.assertIs(type(getattr(error, field)), type(worth))
        self.assertEqual([thing for thing in handed if not isinstance(thing, Net)], before)

    def told_anew(self, call, *handed):
        """Looks that all told lists are new ones each time, and that changing them changes nothing; tells the answer."""
        before = copy.deepcopy([thing for thing in handed if not isinstance(thing, Net)])
        first = call(*handed)
        kept = copy.deepcopy(first)
        second = call(*handed)
        known = [id(one) for thing in (second,) + handed for one in lists_in(thing)]
        self.assertEqual(second, kept)
        for one in lists_in(first):
            self.assertNotIn(id(one), known)
        for one in lists_in(first):
            one.append("more")
        self.assertEqual(second, kept)
        for one in lists_in(first):
            one.clear()
        self.assertEqual(second, kept)
        self.assertEqual(call(*handed), kept)
        self.assertEqual([thing for thing in handed if not isinstance(thing, Net)], before)
        return kept
