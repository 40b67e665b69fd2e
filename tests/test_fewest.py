"""Points 17 and 18: the targets of a tie, who serves them all, and the fewest spares that do."""

import itertools
import unittest

from helping import (FORTY, LARGE, LINE, PARTED, SMALL, SQUARES, TWELVE_RING, TWELVE_WHOLE, TWO, TWO_BARE, UNLIKE_RING,
                     Case, all_distances, weights_of)
from sparenext.errors import NoHouse, NoTie
from sparenext.fewest import fewest_spares, tie_servers, tie_targets
from sparenext.nets import Net
from sparenext.spares import spares_of
from sparenext.ways import next_house

NUMBERS = (-1, -12, FORTY, -FORTY)
CALLS = (tie_targets, tie_servers, fewest_spares)

# From 0 by 1 to 2 and to 3; 4 has a way of its own to 2 alone, 5 to 3 alone.
APART = (6, [(0, 1, 1, 1), (1, 2, 1, 1), (1, 3, 1, 1), (0, 4, 1, 1), (4, 2, 2, 2), (0, 5, 1, 1), (5, 3, 2, 2)])
# The same, and 6 that has a way to either.
EITHER = (7, APART[1] + [(0, 6, 1, 1), (6, 2, 2, 2), (6, 3, 2, 2)])
# The same as the first one, and 6 and 7 that do as 4 and 5 do.
TWICE = (8, APART[1] + [(0, 6, 1, 1), (6, 2, 2, 2), (0, 7, 1, 1), (7, 3, 2, 2)])
# Three targets, each with a neighbour of its own.
THREE = (9, APART[1] + [(1, 6, 1, 1), (0, 7, 1, 1), (7, 6, 2, 2), (0, 8, 3, 3)])
# Nobody sends over the tie of 0 and 1.
USELESS = (3, [(0, 1, 9, 9), (1, 2, 1, 1), (0, 2, 1, 1)])
# 2 has a way of its own to 1, so that it serves all that 1 leads to.
SERVED = (5, [(0, 1, 2, 2), (0, 2, 2, 2), (1, 2, 2, 2), (1, 3, 1, 1), (3, 4, 1, 1)])
OWN = [APART, EITHER, TWICE, THREE, USELESS, SERVED]


def asked(pairs):
    """Tells all nets and the houses of each tie, either way."""
    for count, ties in pairs:
        net = Net(count, ties)
        for a, e in weights_of(ties):
            yield net, ties, a, e


def spares_by_distance(net, ties, a, e, t):
    sums = all_distances(net.count, ties)
    return [n for n in net.neighbours(a) if n != e and sums[n, t] < sums[n, a] + sums[a, t]]


class TieTargetsTest(Case):
    def test_where_the_next_house_is_the_other_one(self):
        for net, _, a, e in asked(SMALL + LARGE[:6] + OWN):
            wanted = [t for t in range(net.count) if next_house(net, a, t) == e]
            self.assertEqual(tie_targets(net, a, e), wanted)

    def test_told_by_hand(self):
        self.assertEqual(tie_targets(self.net(APART), 0, 1), [1, 2, 3])
        self.assertEqual(tie_targets(self.net(APART), 1, 0), [0, 4, 5])
        self.assertEqual(tie_targets(self.net(APART), 4, 2), [2])
        self.assertEqual(tie_targets(self.net(USELESS), 0, 1), [])
        self.assertEqual(tie_targets(self.net(USELESS), 1, 0), [])
        self.assertEqual(tie_targets(self.net(TWO), 1, 0), [0])
        self.assertEqual(tie_targets(self.net(UNLIKE_RING), 3, 0), [0, 1, 2])
        self.assertEqual(tie_targets(self.net(UNLIKE_RING), 0, 3), [])

    def test_lists_are_new(self):
        for net, _, a, e in asked([TWO, UNLIKE_RING, APART]):
            self.told_anew(tie_targets, net, a, e)


class TieServersTest(Case):
    def test_by_distances(self):
        for net, ties, a, e in asked(SMALL + LARGE[:6] + OWN):
            sums = all_distances(net.count, ties)
            weight = weights_of(ties)[a, e]
            wanted = [n for n in net.neighbours(a) if n != e and sums[n, e] < sums[n, a] + weight]
            self.assertEqual(tie_servers(net, a, e), wanted)

    def test_each_serves_each_target(self):
        for net, _, a, e in asked(SMALL + LARGE[:6] + OWN):
            for t in tie_targets(net, a, e):
                spares = spares_of(net, a, t, "tie")
                for n in tie_servers(net, a, e):
                    self.assertIn(n, spares)

    def test_told_by_hand(self):
        self.assertEqual(tie_servers(self.net(SERVED), 0, 1), [2])
        self.assertEqual(tie_servers(self.net(SERVED), 1, 0), [2])
        self.assertEqual(tie_servers(self.net(APART), 0, 1), [])
        self.assertEqual(tie_servers(self.net(USELESS), 0, 1), [2])
        self.assertEqual(tie_servers(self.net(TWO), 0, 1), [])
        self.assertEqual(tie_servers(self.net(TWELVE_RING), 0, 1), [])
        self.assertEqual(tie_servers(self.net(TWELVE_WHOLE), 11, 10), list(range(10)))

    def test_the_weight_is_that_from_the_first_house(self):
        net = Net(3, [(0, 1, 3, 1), (0, 2, 1, 1), (1, 2, 4, 4)])
        # From 2 to 1: 4 by its own tie, 1 and 3 by 0.
        self.assertEqual(tie_servers(net, 0, 1), [])
        # From 2 to 0: 1; by 1 it is 4 and 1.
        self.assertEqual(tie_servers(net, 1, 0), [2])
        net = Net(3, [(0, 1, 3, 1), (0, 2, 1, 1), (1, 2, 4, 3)])
        self.assertEqual(tie_servers(net, 0, 1), [2])

    def test_lists_are_new(self):
        for net, _, a, e in asked([SERVED, UNLIKE_RING, TWELVE_RING]):
            self.told_anew(tie_servers, net, a, e)


class FewestSparesTest(Case):
    def wanted(self, net, ties, a, e):
        spares = {t: spares_by_distance(net, ties, a, e, t) for t in range(net.count) if next_house(net, a, t) == e}
        choices = [some for size in range(net.count) for some in itertools.combinations(net.neighbours(a), size)]
        good = [some for some in choices if all(set(some) & set(found) for found in spares.values() if found)]
        some = min(good, key=lambda one: (len(one), one))
        return some, [(t, min(set(some) & set(found), default=None)) for t, found in spares.items()]

    def test_against_all_choices(self):
        sizes = set()
        for net, ties, a, e in asked(SMALL + OWN):
            told = fewest_spares(net, a, e)
            self.assertEqual(told, self.wanted(net, ties, a, e))
            sizes.add(len(told[0]))
        self.assertEqual(sizes, {0, 1, 2, 3})

    def test_large_nets(self):
        for net, ties, a, e in asked(LARGE[3:7]):
            self.assertEqual(fewest_spares(net, a, e), self.wanted(net, ties, a, e))

    def test_kinds(self):
        for net, _, a, e in asked([TWO, SERVED, APART, USELESS]):
            told = fewest_spares(net, a, e)
            self.assertEqual([type(thing) for thing in (told,) + told], [tuple, tuple, list])
            self.assertEqual([type(row) for row in told[1]], [tuple] * len(told[1]))

    def test_no_targets(self):
        for a, e in ((0, 1), (1, 0)):
            self.assertEqual(fewest_spares(self.net(USELESS), a, e), ((), []))
        self.assertEqual(fewest_spares(self.net(UNLIKE_RING), 0, 3), ((), []))

    def test_targets_without_a_spare(self):
        self.assertEqual(fewest_spares(self.net(TWO), 0, 1), ((), [(1, None)]))
        self.assertEqual(fewest_spares(self.net(LINE), 1, 2), ((), [(2, None), (3, None)]))

    def test_one_target(self):
        self.assertEqual(fewest_spares(self.net(SERVED), 4, 3)[0], ())
        self.assertEqual(fewest_spares(self.net(SERVED), 0, 2), ((1,), [(2, 1)]))
        self.assertEqual(fewest_spares(self.net(PARTED), 4, 5), ((), [(5, None)]))

    def test_one_that_serves_all(self):
        self.assertEqual(fewest_spares(self.net(SERVED), 0, 1), ((2,), [(1, 2), (3, 2), (4, 2)]))

    def test_two_are_needed_and_one_target_has_none(self):
        self.assertEqual(fewest_spares(self.net(APART), 0, 1), ((4, 5), [(1, None), (2, 4), (3, 5)]))

    def test_three_are_needed(self):
        self.assertEqual(fewest_spares(self.net(THREE), 0, 1), ((4, 5, 7), [(1, None), (2, 4), (3, 5), (6, 7)]))

    def test_one_greater_house_instead_of_two(self):
        self.assertEqual(tie_servers(self.net(EITHER), 0, 1), [])
        self.assertEqual(fewest_spares(self.net(EITHER), 0, 1), ((6,), [(1, None), (2, 6), (3, 6)]))

    def test_the_least_of_several_choices(self):
        self.assertEqual(fewest_spares(self.net(TWICE), 0, 1), ((4, 5), [(1, None), (2, 4), (3, 5)]))

    def test_the_least_of_the_told_ones_that_serves(self):
        # Both told ones, 4 and 6, serve 7; 4 alone serves 2, 6 alone serves 3.
        net = Net(8, [(0, 1, 1, 1), (1, 2, 1, 1), (1, 3, 1, 1), (1, 7, 1, 1), (0, 4, 1, 1), (0, 6, 1, 1),
                      (4, 2, 2, 2), (6, 3, 2, 2), (4, 7, 2, 2), (6, 7, 2, 2)])
        self.assertEqual(fewest_spares(net, 0, 1), ((4, 6), [(1, None), (2, 4), (3, 6), (7, 4)]))

    def test_one_neighbour_where_one_serves_all(self):
        for net, _, a, e in asked(SMALL + LARGE[:6] + OWN):
            some, rows = fewest_spares(net, a, e)
            self.assertEqual([t for t, _ in rows], tie_targets(net, a, e))
            if tie_servers(net, a, e) and any(n is not None for _, n in rows):
                self.assertEqual(len(some), 1)

    def test_lists_are_new(self):
        for net, _, a, e in asked([TWO, APART, UNLIKE_RING]):
            self.told_anew(fewest_spares, net, a, e)


class RefusedTest(Case):
    def test_no_house(self):
        for call in CALLS:
            for pair in (TWO, TWO_BARE, SQUARES, TWELVE_WHOLE):
                net = self.net(pair)
                for house in (net.count,) + NUMBERS:
                    self.refused(NoHouse, {"house": house}, call, net, house, 0)
                    self.refused(NoHouse, {"house": house}, call, net, 0, house)
                    self.refused(NoHouse, {"house": house}, call, net, house, -7)
                    self.refused(NoHouse, {"house": -7}, call, net, -7, house)

    def test_no_tie(self):
        for call in CALLS:
            self.refused(NoTie, {"place": None}, call, self.net(TWO_BARE), 0, 1)
            for a, e in ((0, 3), (3, 0), (2, 2), (0, 0)):
                self.refused(NoTie, {"place": None}, call, self.net(LINE), a, e)
                self.refused(NoTie, {"place": None}, call, self.net(PARTED), a, e)


if __name__ == "__main__":
    unittest.main()
