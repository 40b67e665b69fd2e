"""Point 34, and of point 4 what it says of two trees: how a sending goes by them with something fallen."""

import itertools
import random
import unittest

from helping import (FORTY, LARGE, LINE, SMALL, SQUARES, TWELVE_LINE, TWELVE_RING, TWELVE_WHOLE, TWO, TWO_BARE,
                     UNLIKE_RING, Case, all_falls, hits)
from sparenext.double import doubled
from sparenext.errors import NoHouse, NoNeed, NoTie, NoTree
from sparenext.nets import Net
from sparenext.trees import two_trees

NUMBERS = (-1, -2, -12, FORTY, -FORTY)
WORDS = ("ties", "houses")

# A ring of four with trees to 0 either way round it.
RING = (4, [(0, 1, 1, 1), (1, 2, 1, 1), (2, 3, 1, 1), (0, 3, 1, 1)])
DOWN, UP = [None, 0, 1, 2], [None, 2, 3, 0]
# Two triangles that share the house 2; trees to 0 apart by ties, which meet in 2.
BOW = (5, [(0, 1, 1, 1), (1, 2, 1, 1), (0, 2, 1, 1), (2, 3, 1, 1), (3, 4, 1, 1), (2, 4, 1, 1)])
BOW_ONE, BOW_OTHER = [None, 0, 1, 2, 3], [None, 2, 0, 4, 2]


def plain_doubled(t, one, other, start, falls):
    """Tells how a sending goes, step by step as point 34 has it."""
    houses, trees = [start], [one, other]
    while houses[-1] != t:
        parent = trees[0][houses[-1]]
        if any(hits(fall, houses[-1], parent) for fall in falls):
            trees.pop(0)
            if not trees:
                return ("stops", houses)
        else:
            houses.append(parent)
    return ("comes", houses)


def all_trees(count, ties, t):
    """Tells all trees of a small net to a house, without the program."""
    beside = {house: [] for house in range(count)}
    for a, b, _, _ in ties:
        beside[a].append(b)
        beside[b].append(a)
    told = []
    for row in itertools.product(*[[None] if house == t else beside[house] for house in range(count)]):
        good = True
        for house in range(count):
            for _ in range(count):
                house = house if house == t else row[house]
            good = good and house == t
        if good:
            told.append(list(row))
    return told


class DoubledTest(Case):
    def check(self, pair, t, one, other, start, falls):
        told = doubled(self.net(pair), t, one, other, start, falls)
        self.assertEqual([type(thing) for thing in (told,) + told], [tuple, str, list])
        self.assertEqual(told, plain_doubled(t, one, other, start, falls), (pair, t, one, other, start, falls))
        return told

    def test_without_a_fall(self):
        net = self.net(RING)
        self.assertEqual(doubled(net, 0, DOWN, UP, 3, []), ("comes", [3, 2, 1, 0]))
        self.assertEqual(doubled(net, 0, UP, DOWN, 3, []), ("comes", [3, 0]))
        self.assertEqual(doubled(net, 0, DOWN, DOWN, 2, []), ("comes", [2, 1, 0]))

    def test_a_start_that_is_the_target(self):
        net = self.net(RING)
        for falls in ([], [("tie", 0, 1)], [("tie", 0, 1), ("tie", 3, 0)], [("house", 1), ("house", 3)]):
            self.assertEqual(doubled(net, 0, DOWN, UP, 0, falls), ("comes", [0]))

    def test_a_fall_on_the_first_way(self):
        net = self.net(RING)
        for fall in (("tie", 2, 1), ("tie", 1, 2), ("house", 1)):
            self.assertEqual(doubled(net, 0, DOWN, UP, 3, [fall]), ("comes", [3, 2, 3, 0]))
            self.assertEqual(doubled(net, 0, DOWN, UP, 2, [fall]), ("comes", [2, 3, 0]))
        for fall in (("tie", 1, 0), ("tie", 0, 1)):
            self.assertEqual(doubled(net, 0, DOWN, UP, 3, [fall]), ("comes", [3, 2, 1, 2, 3, 0]))
        # Behind the start the sending never looks back to what fell there.
        self.assertEqual(doubled(net, 0, DOWN, UP, 2, [("tie", 2, 3)]), ("comes", [2, 1, 0]))
        self.assertEqual(doubled(net, 0, DOWN, UP, 2, [("house", 3)]), ("comes", [2, 1, 0]))

    def test_falls_on_both_ways(self):
        net = self.net(RING)
        self.assertEqual(doubled(net, 0, DOWN, UP, 2, [("tie", 2, 1), ("tie", 2, 3)]), ("stops", [2]))
        self.assertEqual(doubled(net, 0, DOWN, UP, 2, [("house", 1), ("house", 3)]), ("stops", [2]))
        self.assertEqual(doubled(net, 0, DOWN, UP, 2, [("tie", 0, 1), ("tie", 0, 3)]), ("stops", [2, 1, 2, 3]))
        self.assertEqual(doubled(net, 0, DOWN, UP, 1, [("tie", 0, 1), ("house", 3)]), ("stops", [1, 2]))
        self.assertEqual(doubled(net, 0, DOWN, UP, 3, [("house", 1), ("tie", 3, 0)]), ("stops", [3, 2, 3]))

    def test_by_the_second_tree_to_the_end(self):
        # House 4, from which the second tree goes by 2, where the first one would go on by 1.
        net = self.net(BOW)
        self.assertEqual(doubled(net, 0, BOW_ONE, BOW_OTHER, 4, []), ("comes", [4, 3, 2, 1, 0]))
        self.assertEqual(doubled(net, 0, BOW_ONE, BOW_OTHER, 4, [("tie", 3, 4)]), ("comes", [4, 2, 0]))
        self.assertEqual(doubled(net, 0, BOW_ONE, BOW_OTHER, 4, [("house", 3)]), ("comes", [4, 2, 0]))
        # The tie of 2 and 0 has fallen, too: the first tree would come by 1, but it has been left.
        falls = [("tie", 3, 4), ("tie", 0, 2)]
        self.assertEqual(doubled(net, 0, BOW_ONE, BOW_OTHER, 4, falls), ("stops", [4, 2]))
        # House 2 bars both, and is met again where the first way comes by it.
        self.assertEqual(doubled(net, 0, BOW_ONE, BOW_OTHER, 4, [("house", 2)]), ("stops", [4, 3, 4]))

    def test_one_list_for_both_trees(self):
        net = self.net(RING)
        self.assertEqual(doubled(net, 0, DOWN, DOWN, 3, [("tie", 1, 0)]), ("stops", [3, 2, 1]))
        self.assertEqual(doubled(net, 0, DOWN, DOWN, 3, [("house", 1)]), ("stops", [3, 2]))

    def test_all_trees_of_small_nets(self):
        for pair in (RING, TWO, LINE, (4, RING[1] + [(0, 2, 1, 1)])):
            count, ties = pair
            falls = all_falls(count, ties)
            for t in range(count):
                trees = all_trees(count, ties, t)
                for one, other in itertools.product(trees, trees):
                    for start in range(count):
                        standing = [fall for fall in falls if fall not in (("house", start), ("house", t))]
                        for fall in standing:
                            self.check(pair, t, one, other, start, [fall])
                        self.check(pair, t, one, other, start, standing[::3])
                        self.check(pair, t, one, other, start, standing[::-4])

    def test_trees_told_with_several_falls(self):
        chance = random.Random(8)
        texts = set()
        for pair in SMALL + LARGE:
            count, ties = pair
            falls = all_falls(count, ties)
            for t in range(count):
                for word in WORDS:
                    told = two_trees(self.net(pair), t, word)
                    for start in range(count) if told[0] == "trees" else []:
                        standing = [fall for fall in falls if fall not in (("house", start), ("house", t))]
                        for many in (0, 1, 2, 4):
                            some = [chance.choice(standing) for _ in range(many)] if standing else []
                            texts.add(self.check(pair, t, told[1], told[2], start, some)[0])
        self.assertEqual(texts, {"comes", "stops"})

    def test_apart_by_ties_it_comes_whatever_tie_falls(self):
        for pair in SMALL + LARGE + [BOW, RING]:
            count, ties = pair
            for t in range(count):
                for word in WORDS:
                    told = two_trees(self.net(pair), t, word)
                    if told[0] == "trees":
                        for fall in [fall for fall in all_falls(count, ties) if fall[0] == "tie"]:
                            for start in range(count):
                                text, houses = self.check(pair, t, told[1], told[2], start, [fall])
                                self.assertEqual((text, houses[0], houses[-1]), ("comes", start, t))

    def test_apart_by_houses_it_comes_whatever_house_falls_too(self):
        tried = 0
        for pair in SMALL + LARGE + [RING]:
            count, ties = pair
            for t in range(count):
                told = two_trees(self.net(pair), t, "houses")
                if told[0] == "trees":
                    for start, house in itertools.product(range(count), range(count)):
                        if house not in (start, t):
                            text, houses = self.check(pair, t, told[1], told[2], start, [("house", house)])
                            self.assertEqual((text, houses[0], houses[-1]), ("comes", start, t))
                            self.assertNotIn(house, houses)
                            tried += 1
        self.assertGreater(tried, 100)

    def test_a_hundred_falls(self):
        falls = [("tie", 2, 1), ("tie", 1, 2)] * 50
        self.assertEqual(doubled(self.net(RING), 0, DOWN, UP, 3, falls), ("comes", [3, 2, 3, 0]))

    def test_lists_stay_and_are_new(self):
        net = self.net(RING)
        one, other, falls = list(DOWN), list(UP), [("tie", 1, 0)]
        wanted = ("comes", [3, 2, 1, 2, 3, 0])
        for start in range(4):
            for some in ([], [("tie", 1, 0)], [("house", 2)], [("tie", 1, 0), ("tie", 0, 3)]):
                if ("house", start) not in some:
                    self.told_anew(doubled, net, 0, one, other, start, some)
        told = doubled(net, 0, one, other, 3, falls)
        one[3], other[2] = 0, 1
        falls.append(("tie", 0, 3))
        self.assertEqual(told, wanted)
        self.assertEqual(doubled(net, 0, DOWN, UP, 3, [("tie", 1, 0)]), wanted)
        self.assertEqual(net.ties, self.net(RING).ties)


class RefusedTest(Case):
    # Lists that are no trees to 0 in the ring of four.
    NONE = ([], [None], [None, 0, 1], [None, 0, 1, 2, 3], [1, 0, 1, 2], [None] * 4, [None, 0, None, 2], [None, 2, 1, 2],
            [None, 1, 1, 2], [None, 0, 0, 2], [None, 0, 1, 4], [None, 0, 1, -2], [None, 0, 1, FORTY],
            [None, False, 1, 2], [None, 0, True, 2], [1, 2, 3, None], [0, 0, 1, 2])

    def test_numbers_that_are_no_houses(self):
        net = self.net(RING)
        for house in (4, 5) + NUMBERS:
            field = {"house": house}
            for trees in ((DOWN, UP), ([], [7])):
                self.refused(NoHouse, field, doubled, net, house, *trees, 0, [])
                self.refused(NoHouse, field, doubled, net, house, *trees, -7, [("house", -8), ("tie", 0, 2)])
                self.refused(NoHouse, field, doubled, net, 0, *trees, house, [("house", -8), ("tie", 0, 2)])
                self.refused(NoHouse, field, doubled, net, 0, *trees, house, [("house", 0)])
                for fall in (("house", house), ("tie", house, 0), ("tie", 0, house), ("tie", house, -7)):
                    # Also behind a fall of two houses without a tie, and where start and target have fallen.
                    for ahead in ([], [("tie", 0, 2)], [("tie", 1, 1)], [("house", 0), ("house", 1)]):
                        self.refused(NoHouse, field, doubled, net, 0, *trees, 1, ahead + [fall, ("house", -8)])

    def test_two_houses_without_a_tie(self):
        net = self.net(RING)
        for fall in (("tie", 0, 2), ("tie", 3, 1), ("tie", 0, 0)):
            for trees in ((DOWN, UP), ([], UP), (DOWN, [7])):
                for more in ([], [("house", 0)], [("house", 1), ("tie", 0, 1)]):
                    self.refused(NoTie, {"place": None}, doubled, net, 0, *trees, 1, more + [fall])
                    self.refused(NoTie, {"place": None}, doubled, net, 0, *trees, 1, [fall] + more)
        self.refused(NoTie, {"place": None}, doubled, self.net(TWO_BARE), 0, [None, 0], [None, 0], 1, [("tie", 0, 1)])

    def test_lists_that_are_no_trees(self):
        net = self.net(RING)
        for row in self.NONE:
            for falls in ([], [("tie", 0, 1)], [("house", 2)], [("house", 0)], [("house", 1)]):
                for trees in ((row, UP), (DOWN, row), (row, row)):
                    self.refused(NoTree, {}, doubled, net, 0, *trees, 1, falls)
                    self.refused(NoTree, {}, doubled, net, 0, *trees, 0, falls)
        for t in (1, 2, 3):
            self.refused(NoTree, {}, doubled, net, t, DOWN, UP, 0, [])
        self.refused(NoTree, {}, doubled, self.net(TWO_BARE), 0, [None, 0], [None, 0], 0, [])
        self.refused(NoTree, {}, doubled, self.net(TWELVE_RING), 0, DOWN, UP, 0, [])

    def test_a_fallen_start_or_target(self):
        net = self.net(RING)
        for start in range(4):
            for house in {0, start}:
                for more in ([], [("tie", 0, 1)], [("house", 2)]):
                    self.refused(NoNeed, {}, doubled, net, 0, DOWN, UP, start, [("house", house)] + more)
                    self.refused(NoNeed, {}, doubled, net, 0, DOWN, UP, start, more + [("house", house)])

    def test_a_fallen_tie_of_the_start_is_no_fallen_start(self):
        for pair in (SQUARES, UNLIKE_RING, TWELVE_WHOLE, TWELVE_LINE):
            net = self.net(pair)
            told = two_trees(net, 0, "ties")
            if told[0] == "trees":
                for a, b, _, _ in net.ties:
                    doubled(net, 0, told[1], told[2], b, [("tie", a, b)])


if __name__ == "__main__":
    unittest.main()
