"""Points 12 to 14: needs, spares, and ways that show that there is none."""

import unittest

from helping import (FORTY, LARGE, LINE, PARTED, SMALL, SQUARES, TWELVE_RING, TWELVE_WHOLE, TWO, TWO_BARE, UNLIKE_RING,
                     Case, all_distances, least_ways, weights_of)
from sparenext.errors import NoHouse, NoNeed, NoWord
from sparenext.nets import Net
from sparenext.spares import spare_of, spares_of, spares_told
from sparenext.ways import distance, is_way, next_house

WORDS = ("tie", "house")
OTHER_WORDS = ("", "ties", "houses", "Tie", "HOUSE", "tie ", " house", "fall", "tiehouse", "t" * 800)
NUMBERS = (-1, -12, FORTY, -FORTY)

# From 0 to 3 by 1 or by 2; the way by 2 is longer, that by 4 goes back to 0.
FORKED = (5, [(0, 1, 1, 1), (1, 3, 1, 1), (0, 2, 2, 2), (2, 3, 2, 2), (0, 4, 1, 1)])
# House 1 stands on all least ways of 2, yet the tie from 0 to 1 on none.
BEHIND = (4, [(0, 1, 1, 1), (1, 3, 5, 5), (0, 2, 1, 1), (1, 2, 1, 1)])


def has_need(net, a, t, word):
    """Tells whether a has the need, as point 12 has it."""
    e = next_house(net, a, t)
    return e is not None and (word == "tie" or e != t)


def asked(pairs, word):
    """Tells all nets, houses and targets where there is the need."""
    for count, ties in pairs:
        net = Net(count, ties)
        for t in range(count):
            for a in range(count):
                if has_need(net, a, t, word):
                    yield net, ties, a, t


class SparesOfTest(Case):
    def test_no_least_way_of_a_spare_goes_by_the_house_itself(self):
        for net, ties, a, t in asked(SMALL, "tie"):
            others = [n for n in net.neighbours(a) if n != next_house(net, a, t)]
            wanted = [n for n in others if all(a not in way for way in least_ways(ties, n, t)[1])]
            self.assertEqual(spares_of(net, a, t, "tie"), wanted)

    def test_nor_by_the_fallen_house(self):
        for net, ties, a, t in asked(SMALL, "house"):
            e = next_house(net, a, t)
            others = [n for n in net.neighbours(a) if n != e]
            wanted = [n for n in others if all(a not in way and e not in way for way in least_ways(ties, n, t)[1])]
            self.assertEqual(spares_of(net, a, t, "house"), wanted)

    def test_large_nets_by_their_distances(self):
        for word in WORDS:
            for net, ties, a, t in asked(LARGE, word):
                sums = all_distances(net.count, ties)
                e = next_house(net, a, t)
                wanted = [n for n in net.neighbours(a) if n != e and sums[n, t] < sums[n, a] + sums[a, t]
                          and (word == "tie" or sums[n, t] < sums[n, e] + sums[e, t])]
                self.assertEqual(spares_of(net, a, t, word), wanted)

    def test_told_by_hand(self):
        net = self.net(FORKED)
        self.assertEqual(spares_of(net, 0, 3, "tie"), [2])
        self.assertEqual(spares_of(net, 0, 3, "house"), [2])
        self.assertEqual(spares_of(net, 1, 3, "tie"), [])
        self.assertEqual(spares_of(net, 2, 3, "tie"), [0])
        self.assertEqual(spares_of(net, 4, 3, "tie"), [])
        net = self.net(BEHIND)
        self.assertEqual(spares_of(net, 0, 3, "tie"), [2])
        self.assertEqual(spares_of(net, 0, 3, "house"), [])

    def test_one_several_and_none(self):
        net = self.net(TWELVE_WHOLE)
        # Any house between lies on a least way from 0 to 11, and 11 itself is a neighbour.
        self.assertEqual(spares_of(net, 0, 11, "tie"), list(range(2, 12)))
        self.assertEqual(spares_of(net, 0, 11, "house"), list(range(2, 12)))
        self.assertEqual(spares_of(net, 5, 6, "tie"), list(range(7, 12)))
        self.assertEqual(spares_of(net, 11, 10, "tie"), list(range(10)))
        ring = self.net(TWELVE_RING)
        self.assertEqual(spares_of(ring, 0, 6, "tie"), [11])
        self.assertEqual(spares_of(ring, 1, 6, "tie"), [])
        self.assertEqual(spares_of(ring, 6, 0, "house"), [7])
        self.assertEqual(spares_of(self.net(TWO), 0, 1, "tie"), [])
        self.assertEqual(spares_of(self.net(TWO), 1, 0, "tie"), [])

    def test_lists_are_new(self):
        for word in WORDS:
            for net, _, a, t in asked([FORKED, SQUARES, UNLIKE_RING, TWELVE_RING], word):
                told = spares_told(net, t, word)
                self.told_anew(spares_of, net, a, t, word)
                self.assertEqual(spares_told(net, t, word), told)


class SpareOfTest(Case):
    def check(self, net, a, t, word):
        e = next_house(net, a, t)
        spares = spares_of(net, a, t, word)
        told = spare_of(net, a, t, word)
        self.assertIs(type(told), tuple)
        self.assertEqual(len(told), 2)
        self.assertIs(told[0], bool(spares))
        if spares:
            self.assertEqual(told[1], min(spares, key=lambda n: (net.weight(a, n) + distance(net, n, t), n)))
            return
        self.assertIs(type(told[1]), list)
        self.assertEqual([row[0] for row in told[1]], [n for n in net.neighbours(a) if n != e])
        for row in told[1]:
            self.assertIs(type(row), tuple)
            n, way = row
            self.assertIs(is_way(net, way), True)
            self.assertEqual((way[0], way[-1]), (n, t))
            self.assertEqual(sum(net.weight(here, there) for here, there in zip(way, way[1:])), distance(net, n, t))
            self.assertTrue(a in way or (word == "house" and e in way), (a, e, word, way))

    def test_the_least_spare_or_ways_that_come_back(self):
        for word in WORDS:
            for net, _, a, t in asked(SMALL + LARGE + [FORKED, BEHIND], word):
                self.check(net, a, t, word)

    def test_told_by_hand(self):
        net = self.net(FORKED)
        self.assertEqual(spare_of(net, 0, 3, "tie"), (True, 2))
        self.assertEqual(spare_of(net, 0, 3, "house"), (True, 2))
        self.assertEqual(spare_of(net, 4, 3, "tie"), (False, []))
        self.assertEqual(spare_of(net, 4, 3, "house"), (False, []))
        self.assertEqual(spare_of(self.net(TWO), 0, 1, "tie"), (False, []))
        self.assertEqual(spare_of(self.net(TWELVE_RING), 1, 6, "tie"), (False, [(0, [0, 1, 2, 3, 4, 5, 6])]))
        # From 2 the ways [2, 1, 3] and no other are least: by the fallen house, not by 0.
        self.assertEqual(spare_of(self.net(BEHIND), 0, 3, "tie"), (True, 2))
        self.assertEqual(spare_of(self.net(BEHIND), 0, 3, "house"), (False, [(2, [2, 1, 3])]))

    def test_the_sum_counts_with_the_weight_to_the_spare(self):
        # House 2 is nearer to 4 than 3 is, but farther from 0.
        net = Net(5, [(0, 1, 1, 1), (1, 4, 1, 1), (0, 2, 9, 9), (2, 4, 1, 1), (0, 3, 4, 4), (3, 4, 4, 4)])
        self.assertEqual(spares_of(net, 0, 4, "tie"), [2, 3])
        self.assertEqual(spare_of(net, 0, 4, "tie"), (True, 3))
        alike = Net(5, [(0, 1, 1, 1), (1, 4, 1, 1), (0, 2, 7, 7), (2, 4, 1, 1), (0, 3, 4, 4), (3, 4, 4, 4)])
        self.assertEqual(spare_of(alike, 0, 4, "tie"), (True, 2))

    def test_the_weight_from_the_house_counts(self):
        net = Net(5, [(0, 1, 1, 1), (1, 4, 1, 1), (0, 2, 9, 1), (2, 4, 3, 3), (0, 3, 1, 9), (3, 4, 4, 4)])
        self.assertEqual(spares_of(net, 0, 4, "tie"), [3])
        net = Net(5, [(0, 1, 1, 1), (1, 4, 1, 1), (0, 2, 9, 2), (2, 4, 3, 3), (0, 3, 1, 9), (3, 4, 4, 4)])
        self.assertEqual(spares_of(net, 0, 4, "tie"), [2, 3])
        self.assertEqual(spare_of(net, 0, 4, "tie"), (True, 3))

    def test_the_target_as_spare(self):
        net = Net(3, [(0, 1, 1, 1), (1, 2, 1, 1), (0, 2, 5, 5)])
        self.assertEqual(spare_of(net, 0, 2, "tie"), (True, 2))
        self.assertEqual(spare_of(net, 0, 2, "house"), (True, 2))

    def test_unlike_weights(self):
        net = self.net(UNLIKE_RING)
        # From 1 and from 2 the ways lead on to 3, then to 0; going back is dear.
        self.assertEqual(spare_of(net, 1, 0, "tie"), (True, 0))
        self.assertEqual(spare_of(net, 1, 0, "house"), (True, 0))
        self.assertEqual(spare_of(net, 2, 0, "tie"), (False, [(1, [1, 2, 3, 0])]))
        self.assertEqual(spare_of(net, 3, 0, "tie"), (False, [(2, [2, 3, 0])]))
        self.assertEqual(spare_of(net, 0, 3, "tie"), (True, 3))

    def test_lists_are_new(self):
        for word in WORDS:
            for net, _, a, t in asked([FORKED, BEHIND, SQUARES, UNLIKE_RING, TWELVE_RING], word):
                self.told_anew(spare_of, net, a, t, word)


class SparesToldTest(Case):
    def test_for_each_house_as_spare_of_tells(self):
        for count, ties in SMALL + LARGE + [FORKED, BEHIND]:
            net = Net(count, ties)
            for t in range(count):
                for word in WORDS:
                    wanted = []
                    for a in range(count):
                        found, spare = spare_of(net, a, t, word) if has_need(net, a, t, word) else (False, None)
                        wanted.append(spare if found else None)
                    self.assertEqual(spares_told(net, t, word), wanted)

    def test_told_by_hand(self):
        self.assertEqual(spares_told(self.net(FORKED), 3, "tie"), [2, None, 0, None, None])
        self.assertEqual(spares_told(self.net(FORKED), 3, "house"), [2, None, None, None, None])
        self.assertEqual(spares_told(self.net(TWO), 0, "tie"), [None, None])
        self.assertEqual(spares_told(self.net(TWO_BARE), 0, "house"), [None, None])
        self.assertEqual(spares_told(self.net(PARTED), 0, "tie"), [None, 2, 1, None, None, None, None])
        self.assertEqual(spares_told(self.net(TWELVE_RING), 0, "tie"), [None] * 6 + [7] + [None] * 5)

    def test_lists_are_new(self):
        for pair in (TWO, FORKED, PARTED, TWELVE_RING):
            for word in WORDS:
                net = self.net(pair)
                for t in range(net.count):
                    self.told_anew(spares_told, net, t, word)


class RefusedTest(Case):
    def test_no_house(self):
        for call in (spares_of, spare_of):
            for pair in (TWO, TWO_BARE, FORKED, TWELVE_WHOLE):
                net = self.net(pair)
                for house in (net.count,) + NUMBERS:
                    for word in WORDS + OTHER_WORDS[:2]:
                        self.refused(NoHouse, {"house": house}, call, net, house, 0, word)
                        self.refused(NoHouse, {"house": house}, call, net, 0, house, word)
                        self.refused(NoHouse, {"house": house}, call, net, house, -7, word)
                        self.refused(NoHouse, {"house": -7}, call, net, -7, house, word)

    def test_no_house_of_spares_told(self):
        for pair in (TWO, FORKED, TWELVE_WHOLE):
            net = self.net(pair)
            for house in (net.count,) + NUMBERS:
                for word in WORDS + OTHER_WORDS:
                    self.refused(NoHouse, {"house": house}, spares_told, net, house, word)

    def test_no_word(self):
        net = self.net(FORKED)
        for word in OTHER_WORDS:
            self.refused(NoWord, {}, spares_told, net, 3, word)
            for call in (spares_of, spare_of):
                self.refused(NoWord, {}, call, net, 0, 3, word)
                # Ahead of NoNeed: the target itself, and a house without a way.
                self.refused(NoWord, {}, call, net, 3, 3, word)
                self.refused(NoWord, {}, call, self.net(PARTED), 6, 0, word)

    def test_no_need(self):
        for call in (spares_of, spare_of):
            for pair in (TWO, TWO_BARE, FORKED, PARTED, TWELVE_WHOLE):
                net = self.net(pair)
                for a in range(net.count):
                    for t in range(net.count):
                        for word in WORDS:
                            if not has_need(net, a, t, word):
                                self.refused(NoNeed, {}, call, net, a, t, word)

    def test_need_of_the_tie_but_not_of_the_house(self):
        for call in (spares_of, spare_of):
            self.refused(NoNeed, {}, call, self.net(TWO), 0, 1, "house")
            self.refused(NoNeed, {}, call, self.net(FORKED), 1, 3, "house")
            call(self.net(TWO), 0, 1, "tie")
            call(self.net(FORKED), 1, 3, "tie")


if __name__ == "__main__":
    unittest.main()
