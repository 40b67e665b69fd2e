"""Point 29, and of point 4 what it says of changing tables: how the houses learn of a fall one by one."""

import itertools
import unittest

from helping import (FORTY, LARGE, LINE, PARTED, SMALL, SQUARES, TWELVE_RING, TWELVE_WHOLE, TWO, TWO_BARE, UNLIKE_RING,
                     Case, all_distances, all_falls, goes_in_a_ring, plain_fallen_table, plain_table, plain_walk,
                     ring_between, ties_left)
from sparenext.changing import are_change_numbers, is_change_ring, order_holds
from sparenext.errors import NoHouse, NoNeed, NoTie
from sparenext.falls import fallen_table
from sparenext.learning import learning_or_ring, learning_order
from sparenext.nets import Net
from sparenext.sending import next_table

NUMBERS = (-1, -12, FORTY, -FORTY)
CALLS = (learning_order, learning_or_ring)

# A square with a tail: 0 and 3 joined by 1 and by 2, and 4 hanging by 3.
TAILED = (5, [(0, 1, 1, 1), (1, 3, 1, 1), (0, 2, 2, 2), (2, 3, 2, 2), (3, 4, 1, 1)])
# To 5 all go by 4. Without it 3 and 2 go round by the heavy tie, and there is no way from 1 and 0 any more.
HUB = (6, [(0, 1, 1, 1), (1, 4, 1, 1), (2, 4, 1, 1), (2, 3, 1, 1), (3, 5, 10, 10), (4, 5, 1, 1)])


def asked(pairs):
    """Tells all nets, targets and falls that can be asked about."""
    for count, ties in pairs:
        for fall in all_falls(count, ties):
            for t in range(count):
                if fall != ("house", t):
                    yield Net(count, ties), ties, t, fall


def both_tables(net, ties, t, fall):
    """Tells the table till a house has learnt and the one from then on, without the program."""
    return plain_fallen_table(net.count, ties, t, fall), plain_table(net.count, ties_left(ties, fall), t)


class LearningOrderTest(Case):
    def test_by_distances_without_the_fall(self):
        without_way = 0
        for net, ties, t, fall in asked(SMALL + LARGE[:8] + [TAILED, HUB]):
            old, new = both_tables(net, ties, t, fall)
            sums = all_distances(net.count, ties_left(ties, fall))
            houses = [house for house in range(net.count) if old[house] != new[house]]
            near = [house for house in houses if sums[house, t] is not None]
            far = [house for house in houses if sums[house, t] is None]
            told = learning_order(net, t, fall)
            self.assertIs(type(told), list)
            self.assertEqual(told, sorted(near, key=lambda house: (sums[house, t], house)) + far)
            without_way += bool(near and far)
        self.assertGreater(without_way, 0)

    def test_no_ring_at_any_time_and_who_has_learnt_comes(self):
        for net, ties, t, fall in asked(SMALL + LARGE[:8] + [TAILED, HUB]):
            old, new = both_tables(net, ties, t, fall)
            sums = all_distances(net.count, ties_left(ties, fall))
            table, learnt = list(old), []
            self.assertFalse(goes_in_a_ring(table))
            for house in learning_order(net, t, fall):
                table[house] = new[house]
                learnt.append(house)
                self.assertFalse(goes_in_a_ring(table))
                for start in learnt:
                    if sums[start, t] is not None:
                        self.assertEqual(plain_walk(table, start, t)[-1], t)
            self.assertEqual(table, new)

    def test_the_order_holds(self):
        for net, _, t, fall in asked(SMALL + LARGE + [TAILED, HUB]):
            old, new = fallen_table(net, t, fall), next_table(net.without(fall), t)
            self.assertIs(order_holds(old, new, learning_order(net, t, fall)), True)

    def test_told_by_hand(self):
        net = self.net(TAILED)
        # House 1 has no spare and stops; without the tie it goes back to 0, and 0 by 2.
        self.assertEqual(learning_order(net, 4, ("tie", 1, 3)), [0, 1])
        self.assertEqual(learning_order(net, 4, ("tie", 3, 1)), [0, 1])
        # The spare of 0 is its next house then.
        self.assertEqual(learning_order(net, 4, ("tie", 0, 1)), [])
        self.assertEqual(learning_order(net, 4, ("house", 1)), [])
        self.assertEqual(learning_order(net, 4, ("house", 0)), [])
        # Nobody comes to 4 any more, and all but 3 have yet to learn it.
        self.assertEqual(learning_order(net, 4, ("tie", 3, 4)), [0, 1, 2])
        self.assertEqual(learning_order(net, 4, ("house", 3)), [0])
        # House 6 sends to its spare 7 once it has learnt, and so has 5 to wait for it.
        self.assertEqual(learning_order(self.net(TWELVE_RING), 0, ("tie", 0, 1)), [6, 5, 4, 3, 2, 1])
        self.assertEqual(learning_order(self.net(TWELVE_RING), 0, ("house", 3)), [6, 5, 4])

    def test_without_a_way_last(self):
        net = self.net(HUB)
        self.assertEqual(fallen_table(net, 5, ("house", 4)), [1, None, None, 2, None, None])
        self.assertEqual(next_table(net.without(("house", 4)), 5), [None, None, 3, 5, None, None])
        self.assertEqual(learning_order(net, 5, ("house", 4)), [3, 2, 0])
        self.assertEqual(learning_order(self.net(LINE), 0, ("tie", 1, 2)), [3])
        self.assertEqual(learning_order(self.net(LINE), 3, ("house", 2)), [0])

    def test_of_several_the_least_house(self):
        # To 0 the houses 1, 2 and 3 go by 4; without it each over its own tie.
        net = Net(5, [(3, 4, 1, 1), (2, 4, 1, 1), (1, 4, 1, 1), (4, 0, 1, 1), (0, 3, 9, 9), (0, 2, 9, 9), (0, 1, 9, 9),
                      (1, 2, 1, 1), (2, 3, 1, 1)])
        self.assertEqual(next_table(net, 0), [None, 4, 4, 4, 0])
        # To 0 itself each of them can send as a spare, so nobody has to learn.
        self.assertEqual(learning_order(net, 0, ("house", 4)), [])
        star = Net(6, [(0, 1, 1, 1), (0, 5, 1, 1), (2, 5, 1, 1), (3, 5, 1, 1), (4, 5, 1, 1), (4, 1, 9, 9)])
        # Without 5 there is no way from 2 and 3, whose sendings stop there already; nor from them without its tie to 0.
        self.assertEqual(learning_order(star, 0, ("house", 5)), [])
        self.assertEqual(fallen_table(star, 0, ("tie", 0, 5)), [None, 0, 5, 5, 5, None])
        self.assertEqual(learning_order(star, 0, ("tie", 0, 5)), [4, 5])
        twins = Net(5, [(0, 1, 1, 1), (1, 2, 1, 1), (1, 3, 1, 1), (2, 4, 3, 3), (3, 4, 3, 3), (0, 4, 3, 3)])
        # Without the tie of 0 and 1 the houses 3 and 2 turn to 4, as far off as each other.
        self.assertEqual(fallen_table(twins, 0, ("tie", 0, 1)), [None, None, 1, 1, 0])
        self.assertEqual(learning_order(twins, 0, ("tie", 0, 1)), [2, 3, 1])

    def test_two_houses(self):
        for t in range(2):
            self.assertEqual(learning_order(self.net(TWO), t, ("tie", 0, 1)), [])
            self.assertEqual(learning_order(self.net(TWO), t, ("house", 1 - t)), [])
            self.assertEqual(learning_order(self.net(TWO_BARE), t, ("house", 1 - t)), [])

    def test_a_tie_told_from_either_house(self):
        for net, ties, t, fall in asked([LINE, SQUARES, UNLIKE_RING, TAILED, HUB]):
            if fall[0] == "tie":
                turned = ("tie", fall[2], fall[1])
                self.assertEqual(learning_order(net, t, fall), learning_order(net, t, turned))
                self.assertEqual(learning_or_ring(net, t, fall)[0], learning_or_ring(net, t, turned)[0])

    def test_lists_are_new(self):
        for net, _, t, fall in asked([TWO, TAILED, HUB, TWELVE_RING]):
            before = fallen_table(net, t, fall)
            self.told_anew(learning_order, net, t, fall)
            self.assertEqual(fallen_table(net, t, fall), before)


class LearningOrRingTest(Case):
    def test_judged_by_the_two_tables(self):
        kinds = set()
        for net, ties, t, fall in asked(SMALL + LARGE[:8] + [TAILED, HUB]):
            old, new = both_tables(net, ties, t, fall)
            told = learning_or_ring(net, t, fall)
            self.assertEqual([type(thing) for thing in (told,) + told], [tuple, str, list])
            word, row = told
            self.assertEqual(word == "ring", ring_between(old, new))
            if word == "ring":
                self.assertIs(is_change_ring(old, new, row), True)
                steps = zip(row, row[1:] + row[:1])
                self.assertTrue(all(onward in (old[house], new[house]) for house, onward in steps))
            else:
                self.assertEqual(word, "falls")
                self.assertIs(are_change_numbers(old, new, row), True)
            kinds.add((fall[0], word))
        self.assertEqual(len(kinds), 4)

    def test_some_order_rings_just_where_a_ring_is_told(self):
        for net, ties, t, fall in asked([LINE, UNLIKE_RING, SQUARES, TAILED, HUB]):
            old, new = both_tables(net, ties, t, fall)
            rings = any(goes_in_a_ring(table) for table in itertools.product(*zip(old, new)))
            self.assertEqual(learning_or_ring(net, t, fall)[0] == "ring", rings)

    def test_told_by_hand(self):
        # Where 1 learns ahead of 0, each of them sends to the other one.
        told = learning_or_ring(self.net(TAILED), 4, ("tie", 1, 3))
        self.assertEqual((told[0], sorted(told[1])), ("ring", [0, 1]))
        told = learning_or_ring(self.net(HUB), 5, ("house", 4))
        self.assertEqual((told[0], sorted(told[1])), ("ring", [2, 3]))
        self.assertEqual(learning_or_ring(self.net(TAILED), 4, ("tie", 0, 1))[0], "falls")
        self.assertEqual(learning_or_ring(self.net(LINE), 0, ("tie", 1, 2))[0], "falls")

    def test_lists_are_new(self):
        for net, _, t, fall in asked([TWO, TAILED, HUB, TWELVE_RING]):
            self.told_anew(learning_or_ring, net, t, fall)


class RefusedTest(Case):
    def test_no_house(self):
        for call in CALLS:
            for pair in (TWO, TWO_BARE, TAILED, TWELVE_WHOLE):
                net = self.net(pair)
                for house in (net.count,) + NUMBERS:
                    field = {"house": house}
                    for fall in (("tie", 0, 1), ("tie", 0, 0), ("house", 0), ("tie", -7, 1), ("house", -7)):
                        self.refused(NoHouse, field, call, net, house, fall)
                    for fall in (("tie", house, 0), ("tie", 0, house), ("tie", house, -7), ("house", house)):
                        self.refused(NoHouse, field, call, net, 0, fall)

    def test_no_tie(self):
        for call in CALLS:
            for t in range(5):
                for fall in (("tie", 0, 3), ("tie", 4, 1), ("tie", 2, 2)):
                    self.refused(NoTie, {"place": None}, call, self.net(TAILED), t, fall)
            self.refused(NoTie, {"place": None}, call, self.net(TWO_BARE), 0, ("tie", 0, 1))
            self.refused(NoTie, {"place": None}, call, self.net(PARTED), 3, ("tie", 3, 6))

    def test_a_fallen_target(self):
        for call in CALLS:
            for pair in (TWO, TWO_BARE, LINE, SQUARES, PARTED, TWELVE_WHOLE):
                net = self.net(pair)
                for t in range(net.count):
                    self.refused(NoNeed, {}, call, net, t, ("house", t))


if __name__ == "__main__":
    unittest.main()
