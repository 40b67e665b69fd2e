"""Point 30: who is bare of a spare, and the tie that, put in, leaves the fewest so."""

import unittest

from helping import (FORTY, LARGE, LINE, PARTED, SMALL, SQUARES, TWELVE_LINE, TWELVE_RING, TWELVE_WHOLE, TWO, TWO_BARE,
                     UNLIKE_RING, Case, all_distances, plain_need, plain_spare, weights_of)
from sparenext.errors import NoNeed, NoWeight, NoWord
from sparenext.gaining import bare_pairs, best_tie
from sparenext.nets import Net
from sparenext.spares import spare_of

WORDS = ("tie", "house")
OTHER_WORDS = ("", "ties", "houses", "Tie", "HOUSE", " tie", "tiehouse", "t" * 800)
TRIANGLE = (3, [(0, 1, 1, 1), (1, 2, 1, 1), (0, 2, 1, 1)])
THREE = (3, [(0, 1, 1, 1), (1, 2, 1, 1)])
FOUR_RING = (4, [(0, 1, 1, 1), (1, 2, 1, 1), (2, 3, 1, 1), (0, 3, 1, 1)])


def plain_bare(count, ties, word):
    """Tells all bare pairs, rising, without the program."""
    sums = all_distances(count, ties)
    told = []
    for t in range(count):
        for a in range(count):
            if plain_need(count, ties, sums, a, t, word) is not None:
                if plain_spare(count, ties, sums, a, t, word) is None:
                    told.append((t, a))
    return told


def untied(count, ties):
    weights = weights_of(ties)
    return [(a, b) for a in range(count) for b in range(a + 1, count) if (a, b) not in weights]


class BarePairsTest(Case):
    def test_need_and_no_spare(self):
        for count, ties in SMALL + LARGE:
            for word in WORDS:
                told = bare_pairs(Net(count, ties), word)
                self.assertEqual(told, plain_bare(count, ties, word))
                self.assertTrue(all(type(pair) is tuple for pair in told))

    def test_as_spare_of_tells(self):
        for pair in (LINE, SQUARES, PARTED, UNLIKE_RING, TWELVE_RING):
            net = self.net(pair)
            for word in WORDS:
                wanted = []
                for t in range(net.count):
                    for a in range(net.count):
                        try:
                            found = spare_of(net, a, t, word)[0]
                        except NoNeed:
                            continue
                        if not found:
                            wanted.append((t, a))
                self.assertEqual(bare_pairs(net, word), wanted)

    def test_told_by_hand(self):
        self.assertEqual(bare_pairs(self.net(THREE), "tie"), [(0, 1), (0, 2), (1, 0), (1, 2), (2, 0), (2, 1)])
        # Of a house there is need only where it is not the target itself.
        self.assertEqual(bare_pairs(self.net(THREE), "house"), [(0, 2), (2, 0)])
        for word in WORDS:
            self.assertEqual(bare_pairs(self.net(TRIANGLE), word), [])
            self.assertEqual(bare_pairs(self.net(TWO_BARE), word), [])
            self.assertEqual(bare_pairs(Net(12, []), word), [])
        # To an end of the row the ways of all others go by the house beside it.
        self.assertEqual(bare_pairs(self.net(TWELVE_WHOLE), "tie"), [(0, 1), (11, 10)])
        self.assertEqual(bare_pairs(self.net(TWO), "tie"), [(0, 1), (1, 0)])
        self.assertEqual(bare_pairs(self.net(TWO), "house"), [])
        # In a ring of four only who is right across has two ways.
        wanted = [(0, 1), (0, 3), (1, 0), (1, 2), (2, 1), (2, 3), (3, 0), (3, 2)]
        self.assertEqual(bare_pairs(self.net(FOUR_RING), "tie"), wanted)
        self.assertEqual(bare_pairs(self.net(FOUR_RING), "house"), [])

    def test_who_has_no_way_has_no_need(self):
        told = bare_pairs(self.net(PARTED), "tie")
        self.assertFalse([pair for pair in told if 3 in pair or 6 in pair])
        self.assertIn((4, 5), told)

    def test_lists_are_new(self):
        for pair in (TWO, THREE, TRIANGLE, PARTED, TWELVE_LINE):
            for word in WORDS:
                net = self.net(pair)
                self.told_anew(bare_pairs, net, word)
                self.assertEqual(net.ties, self.net(pair).ties)


class BestTieTest(Case):
    def check(self, pair, weight, word):
        count, ties = pair
        lefts = []
        for a, b in untied(count, ties):
            lefts.append((len(plain_bare(count, ties + [(a, b, weight, weight)], word)), (a, b)))
        told = best_tie(Net(count, ties), weight, word)
        if not lefts:
            self.assertIsNone(told)
            return
        least = min(lefts)
        self.assertEqual(told, (least[1], least[0]))
        self.assertEqual([type(thing) for thing in (told,) + told + told[0]], [tuple, tuple, int, int, int])
        self.assertEqual(len(bare_pairs(Net(count, ties + [told[0] + (weight, weight)]), word)), told[1])

    def test_by_trying_each_pair(self):
        for pair in SMALL:
            for word in WORDS:
                for weight in (1, 3, FORTY):
                    self.check(pair, weight, word)

    def test_larger_nets(self):
        for pair in (TWELVE_LINE, TWELVE_RING) + tuple(LARGE[3:6]):
            for word in WORDS:
                self.check(pair, 2, word)

    def test_told_by_hand(self):
        self.assertEqual(best_tie(self.net(THREE), 1, "tie"), ((0, 2), 0))
        self.assertEqual(best_tie(self.net(THREE), 1, "house"), ((0, 2), 0))
        # By so heavy a tie nobody sends, but both ends have it as a spare; 1, in the middle, has none to either.
        self.assertEqual(best_tie(self.net(THREE), FORTY, "tie"), ((0, 2), 2))
        self.assertEqual(best_tie(self.net(THREE), FORTY, "house"), ((0, 2), 0))
        self.assertEqual(best_tie(self.net(TWO_BARE), 1, "tie"), ((0, 1), 2))
        self.assertEqual(best_tie(self.net(TWO_BARE), FORTY, "house"), ((0, 1), 0))

    def test_of_several_the_least_pair(self):
        # Whichever of the two is put in, the ring of four is one of two triangles.
        for word in WORDS:
            for weight in (1, 2, 3):
                self.check(FOUR_RING, weight, word)
                self.assertEqual(best_tie(self.net(FOUR_RING), weight, word)[0], (0, 2))
        self.assertEqual(best_tie(Net(12, []), 5, "tie"), ((0, 1), 2))
        self.assertEqual(best_tie(Net(12, []), 5, "house"), ((0, 1), 0))
        self.assertEqual(best_tie(Net(4, [(0, 1, 1, 1)]), 5, "house"), ((2, 3), 0))

    def test_a_tie_between_each_two_houses(self):
        for pair in (TWO, TRIANGLE, TWELVE_WHOLE):
            for word in WORDS:
                for weight in (1, FORTY):
                    self.assertIsNone(best_tie(self.net(pair), weight, word))

    def test_the_only_pair_left_is_told(self):
        ties = [tie for tie in TWELVE_WHOLE[1] if tie[:2] != (3, 7)]
        for word in WORDS:
            self.assertEqual(best_tie(Net(12, ties), 4, word), ((3, 7), 2 if word == "tie" else 0))
        # Told though it leaves as many as there were.
        bow = Net(4, [(0, 1, 1, 1), (0, 2, 1, 1), (1, 2, 1, 1), (1, 3, 1, 1), (2, 3, 1, 1)])
        self.assertEqual(bare_pairs(bow, "house"), [])
        self.assertEqual(best_tie(bow, 9, "house"), ((0, 3), 0))

    def test_the_net_stays(self):
        for pair in (THREE, SQUARES, TWELVE_RING):
            net = self.net(pair)
            for word in WORDS:
                first = best_tie(net, 1, word)
                best_tie(net, 9, word)
                self.assertEqual(best_tie(net, 1, word), first)
            self.assertEqual((net.count, net.ties), (pair[0], self.net(pair).ties))
            a, b = untied(*pair)[0]
            self.assertIsNone(net.weight(a, b))


class RefusedTest(Case):
    def test_another_word(self):
        for pair in (TWO, TWO_BARE, THREE, TWELVE_WHOLE):
            for word in OTHER_WORDS:
                self.refused(NoWord, {}, bare_pairs, self.net(pair), word)
                # Ahead of a weight that is none.
                for weight in (1, FORTY, 0, -1, -FORTY):
                    self.refused(NoWord, {}, best_tie, self.net(pair), weight, word)

    def test_a_weight_below_1(self):
        for pair in (TWO, TWO_BARE, THREE, TWELVE_WHOLE):
            for word in WORDS:
                for weight in (0, -1, -2, -FORTY):
                    self.refused(NoWeight, {"place": None}, best_tie, self.net(pair), weight, word)


if __name__ == "__main__":
    unittest.main()
