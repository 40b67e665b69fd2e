"""Points 22 and 23, and of point 4 what it says of them: trees, trees that are apart, and what bars."""

import itertools
import time
import unittest

from helping import (FORTY, LARGE, LINE, PARTED, SMALL, SQUARES, TWELVE_LINE, TWELVE_RING, TWELVE_WHOLE, TWO, TWO_BARE,
                     UNLIKE_RING, Case, random_nets, weights_of)
from sparenext.errors import NoHouse, NoWord
from sparenext.nets import Net
from sparenext.trees import trees_apart, two_trees

NUMBERS = (-1, -12, FORTY, -FORTY)
WORDS = ("ties", "houses")
OTHER_WORDS = ("", "tie", "house", "Ties", "HOUSES", " ties", "tieshouses", "t" * 800)

RING = (4, [(0, 1, 1, 1), (1, 2, 1, 1), (2, 3, 1, 1), (0, 3, 1, 1)])
TRIANGLE = (3, [(0, 1, 1, 1), (1, 2, 1, 1), (0, 2, 1, 1)])
# Two triangles that share the house 2.
BOW = (5, [(0, 1, 1, 1), (1, 2, 1, 1), (0, 2, 1, 1), (2, 3, 1, 1), (3, 4, 1, 1), (2, 4, 1, 1)])
# A triangle with a tail from 2 to 3.
TAILED = (4, TRIANGLE[1] + [(2, 3, 1, 1)])
# Two triangles joined by the tie of 2 and 3.
BRIDGED = (6, TRIANGLE[1] + [(2, 3, 1, 1), (3, 4, 1, 1), (4, 5, 1, 1), (3, 5, 1, 1)])
# Three triangles in a chain: houses 2 and 4 are shared.
CHAIN = (7, BOW[1] + [(4, 5, 1, 1), (5, 6, 1, 1), (4, 6, 1, 1)])
TWELVE_BOWS = (11, [tie for at in range(0, 10, 2) for tie in
                    ((at, at + 1, 1, 1), (at + 1, at + 2, 1, 1), (at, at + 2, 1, 1))])
# Where each two ears of many can be found: a wheel, and a ladder.
WHEEL = (12, [(0, spoke, 1, 1) for spoke in range(1, 12)] + [(at, at % 11 + 1, 1, 1) for at in range(1, 12)])
LADDER = (12, [(at, at + 1, 1, 1) for at in range(11) if at != 5] + [(at, at + 6, 1, 1) for at in range(6)])
OWN = [RING, TRIANGLE, BOW, TAILED, BRIDGED, CHAIN, TWELVE_BOWS, WHEEL, LADDER]
MORE = random_nets(23, 150, 12)


def tree_way(parents, house):
    """Tells the way of a house by its parents, or None where it never stops."""
    way = [house]
    while parents[way[-1]] is not None:
        way.append(parents[way[-1]])
        if len(way) > len(parents):
            return None
    return way


def is_tree_to(count, ties, t, parents):
    """Tells whether a list is a tree, step by step as point 22 has it."""
    weights = weights_of(ties)
    if len(parents) != count or parents[t] is not None:
        return False
    for house, parent in enumerate(parents):
        if house != t and (type(parent) is not int or (house, parent) not in weights):
            return False
    return all(tree_way(parents, house) is not None and tree_way(parents, house)[-1] == t for house in range(count))


def apart(count, ties, t, word, one, other):
    """Tells whether two lists are trees and apart, step by step as point 22 has it."""
    if not is_tree_to(count, ties, t, one) or not is_tree_to(count, ties, t, other):
        return False
    for house in range(count):
        first, second = tree_way(one, house), tree_way(other, house)
        if {frozenset(tie) for tie in zip(first, first[1:])} & {frozenset(tie) for tie in zip(second, second[1:])}:
            return False
        if word == "houses" and set(first) & set(second) != {house, t}:
            return False
    return True


def reached(count, ties, t, without_house=None, without_tie=None):
    """Tells the set of houses with a way to t, without a house or a tie of two houses."""
    pairs = [pair for pair in weights_of(ties) if without_house not in pair and pair != without_tie
             and pair[::-1] != without_tie]
    found = {t}
    while True:
        more = found | {a for a, b in pairs if b in found}
        if more == found:
            return found
        found = more


def wanted_bar(count, ties, t, word):
    """Tells what two_trees has to tell where there are no two trees, else None."""
    houses = set(range(count))
    far = houses - reached(count, ties, t)
    if far:
        return ("far", tuple(sorted(far)))
    bars = []
    if word == "houses":
        for house in sorted(houses - {t}):
            bars.append((house, houses - {house} - reached(count, ties, t, without_house=house)))
    for tie in sorted((min(tie[:2]), max(tie[:2])) for tie in ties):
        bars.append((tie, houses - reached(count, ties, t, without_tie=tie)))
    for bar, lot in bars:
        if lot:
            return ("bar", bar, tuple(sorted(lot)))
    return None


class TreesApartTest(Case):
    def test_all_lists_of_small_nets(self):
        for count, ties in (TRIANGLE, (3, [(0, 1, 2, 3), (1, 2, 2, 3)]), TWO, TWO_BARE, (3, TWO[1])):
            net = Net(count, ties)
            lists = [list(row) for row in itertools.product([None, -1] + list(range(count + 1)), repeat=count)]
            for t in range(count):
                trees = [row for row in lists if is_tree_to(count, ties, t, row)]
                for word in WORDS:
                    for row in lists:
                        for tree in trees:
                            for one, other in ((row, tree), (tree, row)):
                                self.assertIs(trees_apart(net, t, word, one, other),
                                              apart(count, ties, t, word, one, other))

    def test_all_trees_of_a_ring_and_of_two_triangles(self):
        found = {word: 0 for word in WORDS}
        for count, ties in (RING, BOW, (4, RING[1] + [(0, 2, 1, 1), (1, 3, 1, 1)])):
            net = Net(count, ties)
            lists = itertools.product([None] + list(range(count)), repeat=count)
            trees = [list(row) for row in lists if is_tree_to(count, ties, 2, list(row))]
            for one in trees:
                for other in trees:
                    for word in WORDS:
                        wanted = apart(count, ties, 2, word, one, other)
                        self.assertIs(trees_apart(net, 2, word, one, other), wanted)
                        found[word] += wanted
        self.assertGreater(found["ties"], 0)
        self.assertGreater(found["houses"], 0)

    def test_told_by_hand(self):
        net = self.net(RING)
        left, right = [None, 0, 1, 2], [3, 2, 3, 0]
        for word in WORDS:
            self.assertIs(trees_apart(net, 0, word, [None, 0, 1, 2], [None, 2, 3, 0]), True)
        self.assertIs(trees_apart(net, 0, "ties", left, left), False)
        self.assertIs(trees_apart(net, 0, "ties", left, right), False)
        # House 2 has the same way by both, though 1 and 3 have not.
        self.assertIs(trees_apart(net, 0, "ties", [None, 0, 1, 2], [None, 2, 1, 0]), False)

    def test_the_same_tie_the_other_way_about(self):
        # By the one tree 3 goes over 1 to 2; by the other one over 2 to 1.
        net = Net(4, [(0, 1, 1, 1), (0, 2, 1, 1), (1, 2, 1, 1), (1, 3, 1, 1), (2, 3, 1, 1)])
        one, other = [None, 2, 0, 1], [None, 0, 1, 2]
        self.assertIs(trees_apart(net, 0, "ties", one, other), False)
        self.assertIs(trees_apart(net, 0, "ties", [None, 0, 1, 1], [None, 2, 0, 2]), True)

    def test_apart_by_ties_and_not_by_houses(self):
        net = self.net(BOW)
        one, other = [None, 0, 1, 2, 3], [None, 2, 0, 4, 2]
        self.assertIs(trees_apart(net, 0, "ties", one, other), True)
        self.assertIs(trees_apart(net, 0, "houses", one, other), False)
        # To the shared house itself they are apart by both.
        one, other = [2, 0, None, 2, 3], [1, 2, None, 4, 2]
        self.assertIs(trees_apart(net, 2, "ties", one, other), True)
        self.assertIs(trees_apart(net, 2, "houses", one, other), True)

    def test_one_house_alone_shares_a_house(self):
        # By the one tree 3 goes on to 2, by the other one over 4 to 2; all others' ways are apart by houses.
        net = Net(6, [(0, 1, 1, 1), (0, 2, 1, 1), (1, 2, 1, 1), (2, 3, 1, 1), (2, 4, 1, 1), (3, 4, 1, 1), (4, 5, 1, 1),
                      (0, 5, 1, 1)])
        one, other = [None, 2, 0, 2, 5, 0], [None, 0, 1, 4, 2, 4]
        for trees in ((one, other), (other, one)):
            self.assertIs(trees_apart(net, 0, "ties", *trees), True)
            self.assertIs(trees_apart(net, 0, "houses", *trees), False)
        # House 3 goes on over 4 and 5 instead, so that it shares none either.
        self.assertIs(trees_apart(net, 0, "houses", [None, 2, 0, 4, 5, 0], [None, 0, 1, 2, 2, 4]), True)

    def test_the_same_tie_by_houses(self):
        net = self.net(TWO)
        for word in WORDS:
            self.assertIs(trees_apart(net, 0, word, [None, 0], [None, 0]), False)
        for word in WORDS:
            self.assertIs(trees_apart(self.net(TAILED), 2, word, [2, 0, None, 2], [1, 2, None, 2]), False)

    def test_lists_that_are_no_trees(self):
        net = self.net(RING)
        one, other = [None, 0, 1, 2], [None, 2, 3, 0]
        self.assertIs(trees_apart(net, 0, "ties", one, other), True)
        wrong = [
            [None, 2, 1, 0],            # a ring of 1 and 2
            [None, 2, 3, 2],            # a ring of 2 and 3
            [None, 0, None, 0],         # None at another house
            [None, None, None, None],
            [1, 0, 1, 0],               # no None at the target
            [None, 0, 0, 2],            # a parent without a tie
            [None, 1, 1, 2],            # a house that is its own parent
            [None, 0, 1],               # other lengths
            [None, 0, 1, 2, 3],
            [None, 0, 1, 2, None],
            [],
            [None, 4, 1, 2],            # numbers that are no houses
            [None, 0, 1, -2],
            [None, -4, 1, 2],
            [None, FORTY, 1, 2],
            [None, 0, -FORTY, 2],
            [None, False, 1, 2],        # truths
            [None, 0, True, 2],
            [False, 0, 1, 2],
            [True, 0, 1, 2],
        ]
        for row in wrong:
            for word in WORDS:
                self.assertIs(trees_apart(net, 0, word, row, other), False, row)
                self.assertIs(trees_apart(net, 0, word, one, row), False, row)
                self.assertIs(trees_apart(net, 0, word, row, row), False, row)

    def test_trees_to_another_house(self):
        net = self.net(RING)
        for t in (1, 2, 3):
            self.assertIs(trees_apart(net, t, "ties", [None, 0, 1, 2], [None, 2, 3, 0]), False)

    def test_lists_stay(self):
        net = self.net(RING)
        one, other = [None, 0, 1, 2], [None, 2, 3, 0]
        for word in WORDS:
            self.assertIs(self.told_anew(trees_apart, net, 0, word, one, other), True)
        one[3] = 0
        self.assertIs(trees_apart(net, 0, "ties", one, other), False)


class TwoTreesTest(Case):
    def check(self, pair):
        count, ties = pair
        net = Net(count, ties)
        for t in range(count):
            for word in WORDS:
                told = two_trees(net, t, word)
                wanted = wanted_bar(count, ties, t, word)
                self.assertIs(type(told), tuple)
                if wanted is not None:
                    self.assertEqual(told, wanted)
                    continue
                self.assertEqual((told[0], len(told)), ("trees", 3))
                self.assertEqual([type(tree) for tree in told[1:]], [list, list])
                self.assertTrue(apart(count, ties, t, word, told[1], told[2]), (pair, t, word, told))
                self.assertIs(trees_apart(net, t, word, told[1], told[2]), True)
                if word == "houses":
                    self.assertIs(trees_apart(net, t, "ties", told[1], told[2]), True)

    def test_own_nets(self):
        for pair in OWN + [TWELVE_RING, TWELVE_WHOLE, TWELVE_LINE]:
            self.check(pair)

    def test_small_and_large_nets(self):
        for pair in SMALL + LARGE + MORE:
            self.check(pair)

    def test_nets_with_few_rings(self):
        # Nets of ties in rings that share houses here and there, where two trees by ties are the rule.
        for seed in range(60):
            count, ties = random_nets(seed, 1, 12)[0]
            kept = [tie for at, tie in enumerate(ties) if at % 3 != seed % 3]
            self.check((count, kept))

    def test_all_nets_of_four_houses(self):
        pairs = list(itertools.combinations(range(4), 2))
        for many in range(len(pairs) + 1):
            for chosen in itertools.combinations(pairs, many):
                self.check((4, [(a, b, 1, 2) for a, b in chosen]))

    def test_no_trees_at_all_where_something_is_told_to_bar(self):
        for count, ties in (TRIANGLE, TAILED, RING, (4, RING[1] + [(0, 2, 1, 1)]), (4, LINE[1]), (3, TWO[1]), TWO):
            net = Net(count, ties)
            lists = [list(row) for row in itertools.product([None] + list(range(count)), repeat=count)]
            for t in range(count):
                trees = [row for row in lists if is_tree_to(count, ties, t, row)]
                for word in WORDS:
                    some = any(apart(count, ties, t, word, one, other) for one in trees for other in trees)
                    self.assertEqual(two_trees(net, t, word)[0] == "trees", some)

    def test_far(self):
        for word in WORDS:
            self.assertEqual(two_trees(self.net(TWO_BARE), 0, word), ("far", (1,)))
            self.assertEqual(two_trees(self.net(PARTED), 0, word), ("far", (3, 4, 5, 6)))
            self.assertEqual(two_trees(self.net(PARTED), 3, word), ("far", (0, 1, 2, 4, 5, 6)))
            self.assertEqual(two_trees(Net(12, []), 5, word), ("far", (0, 1, 2, 3, 4, 6, 7, 8, 9, 10, 11)))

    def test_a_tie_that_bars(self):
        self.assertEqual(two_trees(self.net(TAILED), 0, "ties"), ("bar", (2, 3), (3,)))
        self.assertEqual(two_trees(self.net(TAILED), 3, "ties"), ("bar", (2, 3), (0, 1, 2)))
        self.assertEqual(two_trees(self.net(BRIDGED), 0, "ties"), ("bar", (2, 3), (3, 4, 5)))
        self.assertEqual(two_trees(self.net(LINE), 1, "ties"), ("bar", (0, 1), (0,)))
        self.assertEqual(two_trees(self.net(LINE), 0, "ties"), ("bar", (0, 1), (1, 2, 3)))
        self.assertEqual(two_trees(self.net(TWELVE_LINE), 11, "ties"), ("bar", (0, 1), (0,)))

    def test_a_house_that_bars(self):
        self.assertEqual(two_trees(self.net(BOW), 0, "houses"), ("bar", 2, (3, 4)))
        self.assertEqual(two_trees(self.net(BOW), 4, "houses"), ("bar", 2, (0, 1)))
        self.assertEqual(two_trees(self.net(CHAIN), 0, "houses"), ("bar", 2, (3, 4, 5, 6)))
        # A house that bars is told ahead of any tie that does.
        self.assertEqual(two_trees(self.net(BRIDGED), 0, "houses"), ("bar", 2, (3, 4, 5)))
        self.assertEqual(two_trees(self.net(TAILED), 0, "houses"), ("bar", 2, (3,)))
        self.assertEqual(two_trees(self.net(LINE), 0, "houses"), ("bar", 1, (2, 3)))
        bar = two_trees(self.net(BOW), 0, "houses")[1]
        self.assertIs(type(bar), int)

    def test_by_houses_a_tie_that_bars_and_no_house(self):
        self.assertEqual(two_trees(self.net(TAILED), 2, "houses"), ("bar", (2, 3), (3,)))
        self.assertEqual(two_trees(self.net(TWO), 0, "houses"), ("bar", (0, 1), (1,)))
        self.assertEqual(two_trees(self.net(TWO), 1, "houses"), ("bar", (0, 1), (0,)))

    def test_the_target_bars_nobody(self):
        self.assertEqual(two_trees(self.net(BOW), 2, "houses")[0], "trees")
        self.assertEqual(two_trees(self.net(BOW), 0, "ties")[0], "trees")
        self.assertEqual(two_trees(self.net(TWELVE_BOWS), 0, "ties")[0], "trees")

    def test_whole_nets_are_answered_quickly(self):
        net = self.net(TWELVE_WHOLE)
        begun = time.monotonic()
        for t in range(12):
            for word in WORDS:
                self.assertEqual(two_trees(net, t, word)[0], "trees")
        self.assertLess(time.monotonic() - begun, 30)

    def test_lists_are_new(self):
        for pair in (TWO, TWO_BARE, RING, BOW, UNLIKE_RING, SQUARES, TWELVE_WHOLE):
            net = self.net(pair)
            for t in range(net.count):
                for word in WORDS:
                    self.told_anew(two_trees, net, t, word)


class RefusedTest(Case):
    def test_no_house(self):
        for pair in (TWO, TWO_BARE, RING, TWELVE_WHOLE):
            net = self.net(pair)
            for house in (net.count,) + NUMBERS:
                for word in WORDS + OTHER_WORDS:
                    self.refused(NoHouse, {"house": house}, two_trees, net, house, word)
                    self.refused(NoHouse, {"house": house}, trees_apart, net, house, word, [], [-5, True])

    def test_no_word(self):
        for word in OTHER_WORDS:
            for pair in (TWO, TWO_BARE, RING, PARTED):
                self.refused(NoWord, {}, two_trees, self.net(pair), 1, word)
                self.refused(NoWord, {}, trees_apart, self.net(pair), 1, word, [None, 0], [])
            self.refused(NoWord, {}, trees_apart, self.net(RING), 0, word, [None, 0, 1, 2], [None, 2, 3, 0])


if __name__ == "__main__":
    unittest.main()
