"""Points 19 to 21, and of point 4 what it says of them: near and far houses, and who is handed over to."""

import unittest

from helping import (FORTY, LARGE, LINE, PARTED, SMALL, SQUARES, TWELVE_RING, TWELVE_WHOLE, TWO, TWO_BARE, UNLIKE_RING,
                     Case, all_distances, least_ways, weights_of)
from sparenext.errors import NoHouse, NoTie, NotLike
from sparenext.handing import far_houses, handed_over, handed_way, near_houses
from sparenext.nets import Net
from sparenext.ways import least_way

NUMBERS = (-1, -12, FORTY, -FORTY)
CALLS = (near_houses, far_houses, handed_over, handed_way)
LIKE_CALLS = (handed_over, handed_way)


def made_like(pairs):
    """Tells the same nets with the weight there for that back."""
    return [(count, [(a, b, there, there) for a, b, there, _ in ties]) for count, ties in pairs]


LIKE_SMALL = made_like(SMALL)
LIKE_LARGE = made_like(LARGE)

# Houses 1 and 2 are joined by 3, too, at which 0 hangs.
HANGING = (4, [(1, 2, 2, 2), (1, 3, 1, 1), (2, 3, 1, 1), (0, 3, 1, 1)])
# The tie of 0 and 1 is on no least way.
DEAR = (3, [(0, 1, 9, 9), (1, 2, 1, 1), (0, 2, 1, 1)])
SQUARE = (4, [(0, 1, 1, 1), (1, 2, 1, 1), (2, 3, 1, 1), (0, 3, 1, 1)])
CUT = (6, [(0, 3, 1, 1), (3, 1, 4, 4), (1, 2, 2, 2), (0, 4, 1, 1), (3, 4, 1, 1)])


def asked(pairs):
    """Tells all nets and the houses of each tie, either way."""
    for count, ties in pairs:
        net = Net(count, ties)
        for a, e in weights_of(ties):
            yield net, ties, a, e


def goes_over(way, a, e):
    return (a, e) in list(zip(way, way[1:]))


class NearAndFarTest(Case):
    def test_near_by_all_least_ways(self):
        for net, ties, a, e in asked(SMALL):
            wanted = []
            for p in range(net.count):
                ways = least_ways(ties, a, p)[1]
                if ways and not any(goes_over(way, a, e) for way in ways):
                    wanted.append(p)
            self.assertEqual(near_houses(net, a, e), wanted)
            self.assertIn(a, wanted)

    def test_far_by_all_least_ways(self):
        for net, ties, a, e in asked(SMALL):
            wanted = []
            for q in range(net.count):
                ways = least_ways(ties, q, e)[1]
                if ways and not any(goes_over(way, a, e) for way in ways):
                    wanted.append(q)
            self.assertEqual(far_houses(net, a, e), wanted)
            self.assertIn(e, wanted)

    def test_large_nets_by_their_distances(self):
        for net, ties, a, e in asked(LARGE[:7]):
            sums, weight = all_distances(net.count, ties), weights_of(ties)[a, e]
            houses = range(net.count)
            self.assertEqual(near_houses(net, a, e), [p for p in houses if sums[a, p] is not None
                                                      and sums[a, p] < weight + sums[e, p]])
            self.assertEqual(far_houses(net, a, e), [q for q in houses if sums[q, e] is not None
                                                     and sums[q, e] < sums[q, a] + weight])

    def test_told_by_hand(self):
        ring = self.net(TWELVE_RING)
        # To 6 from 0, and from 7 to 1, the ways either way round are least.
        self.assertEqual(near_houses(ring, 0, 1), [0, 7, 8, 9, 10, 11])
        self.assertEqual(far_houses(ring, 0, 1), [1, 2, 3, 4, 5, 6])
        self.assertEqual(near_houses(self.net(TWO), 0, 1), [0])
        self.assertEqual(far_houses(self.net(TWO), 0, 1), [1])
        self.assertEqual(near_houses(self.net(DEAR), 0, 1), [0, 1, 2])
        self.assertEqual(far_houses(self.net(DEAR), 0, 1), [0, 1, 2])

    def test_unlike_weights_are_not_refused(self):
        net = self.net(UNLIKE_RING)
        self.assertEqual(near_houses(net, 0, 1), [0])
        self.assertEqual(far_houses(net, 0, 1), [1])
        self.assertEqual(near_houses(net, 1, 0), [0, 1, 2, 3])
        self.assertEqual(far_houses(net, 1, 0), [0, 1, 2, 3])
        self.assertEqual(near_houses(self.net(PARTED), 4, 5), [4])
        self.assertEqual(far_houses(self.net(PARTED), 4, 5), [5])

    def test_lists_are_new(self):
        for net, _, a, e in asked([TWO, DEAR, UNLIKE_RING, TWELVE_RING]):
            self.told_anew(near_houses, net, a, e)
            self.told_anew(far_houses, net, a, e)


class HandedOverTest(Case):
    def wanted(self, net, ties, a, e):
        """Tells the answer by distances found without the program."""
        sums, weights = all_distances(net.count, ties), weights_of(ties)
        houses = range(net.count)
        near = [p for p in houses if sums[a, p] is not None and sums[a, p] < weights[a, e] + sums[e, p]]
        far = [q for q in houses if sums[q, e] is not None and sums[q, e] < sums[q, a] + weights[a, e]]
        both = set(near) & set(far)
        if both:
            return ("over", min(both))
        tied = [(p, q) for p in near for q in far if (p, q) in weights and {p, q} != {a, e}]
        if tied:
            return ("over",) + min(tied)
        left = all_distances(net.count, [tie for tie in ties if set(tie[:2]) != {a, e}])
        return ("cut", tuple(house for house in houses if left[a, house] is not None))

    def test_small_and_large_nets(self):
        kinds = set()
        for net, ties, a, e in asked(LIKE_SMALL + LIKE_LARGE + [HANGING, DEAR, SQUARE, CUT]):
            told = handed_over(net, a, e)
            self.assertEqual(told, self.wanted(net, ties, a, e))
            kinds.add((told[0], len(told)))
        self.assertEqual(kinds, {("over", 2), ("over", 3), ("cut", 2)})

    def test_cut_just_where_no_way_is_left(self):
        for net, ties, a, e in asked(LIKE_SMALL + LIKE_LARGE):
            left = all_distances(net.count, [tie for tie in ties if set(tie[:2]) != {a, e}])
            told = handed_over(net, a, e)
            self.assertEqual(told[0] == "cut", left[a, e] is None)
            if told[0] == "cut":
                self.assertIs(type(told[1]), tuple)
                self.assertIn(a, told[1])
                self.assertNotIn(e, told[1])

    def test_by_one_house(self):
        self.assertEqual(handed_over(self.net(HANGING), 1, 2), ("over", 0))
        self.assertEqual(handed_over(self.net(HANGING), 2, 1), ("over", 0))

    def test_to_the_house_itself(self):
        self.assertEqual(handed_over(self.net(DEAR), 0, 1), ("over", 0))
        self.assertEqual(handed_over(self.net((3, [(2, 1, 9, 9), (0, 1, 1, 1), (0, 2, 1, 1)])), 2, 1), ("over", 0))
        own = self.net((4, [(0, 1, 9, 9), (1, 2, 1, 1), (0, 2, 1, 1), (1, 3, 1, 1)]))
        self.assertEqual(handed_over(own, 1, 0), ("over", 0))
        self.assertEqual(handed_over(own, 0, 1), ("over", 0))

    def test_by_one_tie_more(self):
        self.assertEqual(handed_over(self.net(SQUARE), 0, 1), ("over", 3, 2))
        self.assertEqual(handed_over(self.net(SQUARE), 1, 0), ("over", 2, 3))
        self.assertEqual(handed_over(self.net(TWELVE_RING), 0, 1), ("over", 7, 6))
        self.assertEqual(handed_over(self.net(TWELVE_RING), 1, 0), ("over", 6, 7))

    def test_by_a_tie_of_the_house_itself(self):
        net = self.net((3, [(0, 1, 1, 1), (1, 2, 1, 1), (0, 2, 5, 5)]))
        self.assertEqual(handed_over(net, 0, 1), ("over", 0, 2))
        self.assertEqual(handed_over(net, 1, 0), ("over", 2, 0))

    def test_cut(self):
        self.assertEqual(handed_over(self.net(TWO[:1] + ([(0, 1, 4, 4)],)), 1, 0), ("cut", (1,)))
        self.assertEqual(handed_over(self.net(CUT), 3, 1), ("cut", (0, 3, 4)))
        self.assertEqual(handed_over(self.net(CUT), 1, 3), ("cut", (1, 2)))
        self.assertEqual(handed_over(self.net(CUT), 2, 1), ("cut", (2,)))

    def test_told_anew(self):
        for net, _, a, e in asked([HANGING, DEAR, SQUARE, CUT]):
            self.assertEqual(handed_over(net, a, e), self.told_anew(handed_over, net, a, e))


class HandedWayTest(Case):
    def test_the_walk(self):
        for net, _, a, e in asked(LIKE_SMALL + LIKE_LARGE + [HANGING, DEAR, SQUARE, CUT]):
            told, walk = handed_over(net, a, e), handed_way(net, a, e)
            if told[0] == "cut":
                self.assertIsNone(walk)
                continue
            first, last = least_way(net, a, told[1]), least_way(net, told[-1], e)
            self.assertEqual(walk, first + (last if len(told) == 3 else last[1:]))
            self.assertEqual((walk[0], walk[-1]), (a, e))
            for here, there in zip(walk, walk[1:]):
                self.assertIsNotNone(net.weight(here, there))
                self.assertNotEqual({here, there}, {a, e})

    def test_told_by_hand(self):
        self.assertEqual(handed_way(self.net(DEAR), 0, 1), [0, 2, 1])
        self.assertEqual(handed_way(self.net(DEAR), 1, 0), [1, 2, 0])
        self.assertEqual(handed_way(self.net(SQUARE), 0, 1), [0, 3, 2, 1])
        self.assertEqual(handed_way(self.net(TWELVE_RING), 0, 1), [0, 11, 10, 9, 8, 7, 6, 5, 4, 3, 2, 1])
        self.assertIsNone(handed_way(self.net(CUT), 3, 1))

    def test_a_house_comes_again(self):
        self.assertEqual(handed_way(self.net(HANGING), 1, 2), [1, 3, 0, 3, 2])

    def test_lists_are_new(self):
        for net, _, a, e in asked([HANGING, DEAR, SQUARE]):
            self.told_anew(handed_way, net, a, e)


class RefusedTest(Case):
    def test_no_house(self):
        for call in CALLS:
            for pair in (TWO, TWO_BARE, DEAR, SQUARES, UNLIKE_RING, TWELVE_WHOLE):
                net = self.net(pair)
                for house in (net.count,) + NUMBERS:
                    self.refused(NoHouse, {"house": house}, call, net, house, 0)
                    self.refused(NoHouse, {"house": house}, call, net, 0, house)
                    self.refused(NoHouse, {"house": house}, call, net, house, -7)
                    self.refused(NoHouse, {"house": -7}, call, net, -7, house)

    def test_no_tie_ahead_of_unlike_weights(self):
        for call in CALLS:
            for a, e in ((0, 3), (3, 0), (1, 1)):
                self.refused(NoTie, {"place": None}, call, self.net(LINE), a, e)
                self.refused(NoTie, {"place": None}, call, self.net(PARTED), a, e)
            self.refused(NoTie, {"place": None}, call, self.net(TWO_BARE), 0, 1)
            self.refused(NoTie, {"place": None}, call, self.net(SQUARE), 0, 2)

    def test_not_like(self):
        for call in LIKE_CALLS:
            self.refused(NotLike, {"tie": (0, 1)}, call, self.net(TWO), 0, 1)
            self.refused(NotLike, {"tie": (0, 1)}, call, self.net(TWO), 1, 0)
            self.refused(NotLike, {"tie": (1, 2)}, call, self.net(LINE), 2, 3)
            self.refused(NotLike, {"tie": (0, 1)}, call, self.net(PARTED), 4, 5)

    def test_the_first_tie_that_is_unlike_whatever_was_handed_in_first(self):
        ties = [(3, 2, 7, 6), (3, 1, 2, 2), (2, 1, 5, 4), (1, 0, 1, 1), (0, 3, 8, 8)]
        for call in LIKE_CALLS:
            for a, e, _, _ in ties:
                self.refused(NotLike, {"tie": (1, 2)}, call, Net(4, ties), a, e)


if __name__ == "__main__":
    unittest.main()
