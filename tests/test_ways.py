"""Points 7 and 8: ways, sums, distances and next houses."""

import unittest

from helping import (FORTY, HUGE, LARGE, LINE, PARTED, SMALL, SQUARES, TWELVE_LINE, TWELVE_RING, TWELVE_WHOLE, TWO,
                     TWO_BARE, UNLIKE_RING, Case, all_distances, all_ways, least_ways, weights_of)
from sparenext.errors import NoHouse
from sparenext.nets import Net
from sparenext.ways import distance, is_way, least_way, next_house, next_houses, way_count


class AgainstSearchTest(Case):
    """Small nets against all ways found by plain search."""

    def test_distance_and_way_count(self):
        for count, ties in SMALL:
            net = Net(count, ties)
            for a in range(count):
                for t in range(count):
                    least, ways = least_ways(ties, a, t)
                    self.assertEqual(distance(net, a, t), least)
                    self.assertEqual(way_count(net, a, t), len(ways))

    def test_next_houses(self):
        for count, ties in SMALL:
            net = Net(count, ties)
            for a in range(count):
                for t in range(count):
                    steps = sorted({way[1] for way in least_ways(ties, a, t)[1] if len(way) > 1})
                    self.assertEqual(next_houses(net, a, t), steps)
                    self.assertEqual(next_house(net, a, t), steps[0] if steps else None)

    def test_least_way(self):
        for count, ties in SMALL:
            net = Net(count, ties)
            for a in range(count):
                for t in range(count):
                    ways = least_ways(ties, a, t)[1]
                    # From each house on the least next one goes on, so it is the least of the least ways.
                    self.assertEqual(least_way(net, a, t), ways[0] if ways else None)

    def test_is_way(self):
        for count, ties in SMALL[:20]:
            net = Net(count, ties)
            for a in range(count):
                for t in range(count):
                    for _, houses in all_ways(ties, a, t):
                        self.assertIs(is_way(net, houses), True)

    def test_is_way_of_all_short_lists(self):
        for count, ties in SMALL[:12]:
            net = Net(count, ties)
            pairs = weights_of(ties)
            houses = range(-1, count + 1)
            for a in houses:
                for b in houses:
                    self.assertIs(is_way(net, [a, b]), (a, b) in pairs)
                    for c in houses:
                        good = (a, b) in pairs and (b, c) in pairs and a != c
                        self.assertIs(is_way(net, [a, b, c]), good)


class LargeTest(Case):
    """Nets of up to twelve houses against distances found house by house."""

    def test_distances(self):
        for count, ties in LARGE:
            net = Net(count, ties)
            sums = all_distances(count, ties)
            for (a, t), told in sums.items():
                self.assertEqual(distance(net, a, t), told)

    def test_next_houses(self):
        for count, ties in LARGE:
            net = Net(count, ties)
            sums, weights = all_distances(count, ties), weights_of(ties)
            for (a, t), told in sums.items():
                steps = [n for n in range(count) if (a, n) in weights and sums[n, t] is not None
                         and weights[a, n] + sums[n, t] == told]
                self.assertEqual(next_houses(net, a, t), steps)
                self.assertEqual(next_house(net, a, t), min(steps, default=None))

    def test_least_way_has_the_distance_and_follows_next_houses(self):
        for count, ties in LARGE:
            net = Net(count, ties)
            sums, weights = all_distances(count, ties), weights_of(ties)
            for (a, t), told in sums.items():
                houses = least_way(net, a, t)
                if told is None:
                    self.assertIsNone(houses)
                    continue
                self.assertIs(is_way(net, houses), True)
                self.assertEqual((houses[0], houses[-1]), (a, t))
                steps = list(zip(houses, houses[1:]))
                self.assertEqual(sum(weights[step] for step in steps), told)
                for here, there in steps:
                    self.assertEqual(there, next_house(net, here, t))

    def test_way_count_is_that_of_the_next_houses_together(self):
        for count, ties in LARGE:
            net = Net(count, ties)
            for t in range(count):
                self.assertEqual(way_count(net, t, t), 1)
                for a in range(count):
                    if a != t:
                        together = sum(way_count(net, n, t) for n in next_houses(net, a, t))
                        self.assertEqual(way_count(net, a, t), together)

    def test_twelve_whole(self):
        net = self.net(TWELVE_WHOLE)
        self.assertEqual(distance(net, 0, 11), 11)
        self.assertEqual(way_count(net, 0, 11), 1024)
        self.assertEqual(way_count(net, 11, 0), 1024)
        self.assertEqual(way_count(net, 4, 6), 2)
        self.assertEqual(next_houses(net, 0, 11), list(range(1, 12)))
        self.assertEqual(next_houses(net, 11, 3), list(range(3, 11)))
        self.assertEqual(least_way(net, 0, 11), list(range(12)))
        self.assertEqual(least_way(net, 11, 0), [11, 0])

    def test_twelve_line(self):
        net = self.net(TWELVE_LINE)
        self.assertEqual(distance(net, 0, 11), 66)
        self.assertEqual(distance(net, 11, 0), sum(20 - house for house in range(11)))
        self.assertEqual(least_way(net, 11, 0), list(range(11, -1, -1)))
        self.assertEqual(way_count(net, 0, 11), 1)
        self.assertEqual(next_houses(net, 5, 0), [4])

    def test_twelve_ring(self):
        net = self.net(TWELVE_RING)
        self.assertEqual(distance(net, 0, 6), 6)
        self.assertEqual(way_count(net, 0, 6), 2)
        self.assertEqual(next_houses(net, 0, 6), [1, 11])
        self.assertEqual(least_way(net, 6, 0), [6, 5, 4, 3, 2, 1, 0])
        self.assertEqual(least_way(net, 0, 7), [0, 11, 10, 9, 8, 7])


class OrdinaryTest(Case):
    def test_two_houses(self):
        net = self.net(TWO)
        self.assertEqual((distance(net, 0, 1), distance(net, 1, 0)), (3, 5))
        self.assertEqual((least_way(net, 0, 1), least_way(net, 1, 0)), ([0, 1], [1, 0]))
        self.assertEqual((next_house(net, 0, 1), next_house(net, 1, 0)), (1, 0))
        self.assertEqual(way_count(net, 1, 0), 1)

    def test_weights_unlike_either_way(self):
        net = self.net(UNLIKE_RING)
        self.assertEqual((distance(net, 0, 3), distance(net, 3, 0)), (3, 1))
        self.assertEqual(least_way(net, 0, 3), [0, 1, 2, 3])
        self.assertEqual(least_way(net, 3, 0), [3, 0])
        self.assertEqual(least_way(net, 1, 0), [1, 2, 3, 0])
        self.assertEqual(next_houses(net, 1, 0), [2])

    def test_several_least_ways(self):
        net = self.net(SQUARES)
        self.assertEqual(distance(net, 0, 4), 4)
        self.assertEqual(way_count(net, 0, 4), 4)
        self.assertEqual(next_houses(net, 0, 4), [1, 2])
        self.assertEqual(next_house(net, 0, 4), 1)
        self.assertEqual(next_houses(net, 3, 4), [4, 5])
        self.assertEqual(least_way(net, 0, 4), [0, 1, 3, 4])
        self.assertEqual(least_way(net, 4, 0), [4, 3, 1, 0])

    def test_a_farther_tie_counts_as_much_as_a_way_of_the_same_sum(self):
        net = Net(3, [(0, 1, 2, 2), (1, 2, 2, 2), (0, 2, 4, 5)])
        self.assertEqual(way_count(net, 0, 2), 2)
        self.assertEqual(next_houses(net, 0, 2), [1, 2])
        self.assertEqual(way_count(net, 2, 0), 1)
        self.assertEqual(next_houses(net, 2, 0), [1])

    def test_a_house_to_itself(self):
        for pair in (TWO, TWO_BARE, LINE, PARTED, TWELVE_WHOLE):
            net = self.net(pair)
            for a in range(net.count):
                self.assertEqual(distance(net, a, a), 0)
                self.assertEqual(way_count(net, a, a), 1)
                self.assertEqual(next_houses(net, a, a), [])
                self.assertIsNone(next_house(net, a, a))
                self.assertEqual(least_way(net, a, a), [a])

    def test_no_way(self):
        for pair, a, t in ((TWO_BARE, 0, 1), (PARTED, 0, 3), (PARTED, 3, 0), (PARTED, 5, 1), (PARTED, 6, 3)):
            net = self.net(pair)
            self.assertIsNone(distance(net, a, t))
            self.assertEqual(way_count(net, a, t), 0)
            self.assertEqual(next_houses(net, a, t), [])
            self.assertIsNone(next_house(net, a, t))
            self.assertIsNone(least_way(net, a, t))

    def test_a_part_by_itself(self):
        net = self.net(PARTED)
        self.assertEqual((distance(net, 4, 5), distance(net, 5, 4)), (1, 7))
        self.assertEqual(way_count(net, 0, 2), 2)
        self.assertEqual(least_way(net, 2, 0), [2, 0])

    def test_weights_of_forty_figures(self):
        net = self.net(HUGE)
        self.assertEqual(distance(net, 0, 1), FORTY)
        self.assertEqual(distance(net, 2, 0), FORTY - 1)
        self.assertEqual(distance(net, 1, 2), FORTY)
        self.assertEqual(distance(net, 2, 1), FORTY)
        far = Net(12, [(house, house + 1, FORTY, FORTY) for house in range(11)])
        self.assertEqual(distance(far, 0, 11), 11 * FORTY)

    def test_a_fall_changes_ways(self):
        net = self.net(SQUARES)
        self.assertEqual(least_way(net.without(("house", 1)), 0, 4), [0, 2, 3, 4])
        self.assertEqual(distance(net.without(("tie", 4, 3)), 0, 4), 4)
        self.assertIsNone(distance(net.without(("house", 3)), 0, 4))


class IsWayTest(Case):
    def test_none_and_one(self):
        net = self.net(LINE)
        self.assertIs(is_way(net, []), False)
        for house in range(4):
            self.assertIs(is_way(net, [house]), True)
        for number in (-1, 4, FORTY, -FORTY):
            self.assertIs(is_way(net, [number]), False)

    def test_ways_that_are_not_least(self):
        self.assertIs(is_way(self.net(UNLIKE_RING), [0, 3, 2, 1]), True)
        self.assertIs(is_way(self.net(PARTED), [0, 1, 2]), True)

    def test_a_house_told_twice(self):
        self.assertIs(is_way(self.net(LINE), [0, 1, 0]), False)
        self.assertIs(is_way(self.net(LINE), [1, 1]), False)
        self.assertIs(is_way(self.net(UNLIKE_RING), [0, 1, 2, 3, 0]), False)
        self.assertIs(is_way(self.net(UNLIKE_RING), [3, 0, 1, 2, 3]), False)

    def test_two_houses_without_a_tie(self):
        net = self.net(LINE)
        for houses in ([0, 2], [0, 1, 3], [3, 2, 0], [0, 2, 3]):
            self.assertIs(is_way(net, houses), False)

    def test_numbers_that_are_no_houses(self):
        net = self.net(LINE)
        for houses in ([0, 1, 4], [4, 3], [-1, 0], [0, -1], [2, 3, FORTY], [1, 2, -FORTY], [4, 4], [3, -1]):
            self.assertIs(is_way(net, houses), False)

    def test_long_lists(self):
        net = self.net(TWELVE_WHOLE)
        self.assertIs(is_way(net, list(range(12))), True)
        self.assertIs(is_way(net, list(range(13))), False)
        self.assertIs(is_way(net, list(range(100))), False)
        self.assertIs(is_way(net, [0, 1] * 50), False)

    def test_the_list_stays(self):
        houses = [2, 1, 0]
        self.assertIs(is_way(self.net(LINE), houses), True)
        self.assertEqual(houses, [2, 1, 0])
        houses.append(0)
        self.assertIs(is_way(self.net(LINE), houses), False)


class ToldAgainTest(Case):
    def test_lists_are_new(self):
        for pair in (TWO, TWO_BARE, SQUARES, PARTED, TWELVE_RING):
            net = self.net(pair)
            ties = net.ties
            for a in range(net.count):
                for t in range(net.count):
                    self.told_anew(next_houses, net, a, t)
                    if least_way(net, a, t) is not None:
                        self.told_anew(least_way, net, a, t)
            self.assertEqual(net.ties, ties)

    def test_numbers_are_told_again_after_other_questions(self):
        net = self.net(SQUARES)
        first = [(distance(net, a, t), way_count(net, a, t)) for a in range(6) for t in range(6)]
        net.without(("house", 3))
        least_way(net, 0, 4).clear()
        again = [(distance(net, a, t), way_count(net, a, t)) for a in range(6) for t in range(6)]
        self.assertEqual(again, first)


class RefusedTest(Case):
    def test_no_house(self):
        for call in (distance, way_count, next_houses, next_house, least_way):
            for pair in (TWO, TWO_BARE, LINE, PARTED, TWELVE_WHOLE):
                net = self.net(pair)
                for house in (net.count, -1, FORTY, -FORTY):
                    self.refused(NoHouse, {"house": house}, call, net, house, 0)
                    self.refused(NoHouse, {"house": house}, call, net, 0, house)
                    self.refused(NoHouse, {"house": house}, call, net, house, house)
                    self.refused(NoHouse, {"house": house}, call, net, house, 20)
                    self.refused(NoHouse, {"house": 20}, call, net, 20, house)


if __name__ == "__main__":
    unittest.main()
