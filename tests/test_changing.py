"""Points 24 and 25, and of point 4 what it says of them: tables that change house by house."""

import itertools
import random
import unittest

from helping import (FORTY, LARGE, LINE, PARTED, SMALL, SQUARES, TWELVE_LINE, TWELVE_RING, TWELVE_WHOLE, TWO, TWO_BARE,
                     UNLIKE_RING, Case, all_distances, goes_in_a_ring, random_table)
from sparenext.changing import are_change_numbers, change_or_ring, change_order, is_change_ring, order_holds
from sparenext.errors import NoCount, NoHouse
from sparenext.nets import Net
from sparenext.sending import next_table

NUMBERS = (-1, -2, -12, FORTY, -FORTY)


def calm_table(chance, ranks):
    """Tells a table by which each house sends to one of a lower rank."""
    told = []
    for rank in ranks:
        told.append(chance.choice([None] + [house for house, other in enumerate(ranks) if other < rank]))
    return told


def some_pairs():
    """Tells pairs of tables of as many houses, the same ones each time."""
    chance = random.Random(5)
    told = [([None], [None]), ([0], [None]), ([None], [0]), ([0], [0]), ([None] * 12, [None] * 12),
            ([None] + list(range(11)), list(range(1, 12)) + [None]), ([11] * 12, [0] * 12), ([1, None], [None, 0])]
    for _ in range(120):
        count = chance.randint(1, 7)
        told.append((random_table(chance, count), random_table(chance, count)))
    for _ in range(120):
        count = chance.randint(1, 12)
        ranks, others = chance.sample(range(count), count), chance.sample(range(count), count)
        told.append((calm_table(chance, ranks), calm_table(chance, ranks)))
        told.append((calm_table(chance, ranks), calm_table(chance, others)))
    return told


PAIRS = some_pairs()
SHORT = [(old, new) for old, new in PAIRS if len(old) <= 7]


def mixed(old, new):
    """Tells each table that can be there while the houses change in whatever order."""
    return itertools.product(*[sorted({before, after}, key=str) for before, after in zip(old, new)])


def can_ring(old, new):
    return any(goes_in_a_ring(table) for table in mixed(old, new))


def sends(old, new, house, onward):
    return onward is not None and onward in (old[house], new[house])


def changed(old, new):
    return [house for house in range(len(old)) if old[house] != new[house]]


def twins(pairs):
    """Tells pairs of nets of as many houses: each one with the next ones of its count, and itself."""
    by_count = {}
    for count, ties in pairs:
        by_count.setdefault(count, []).append(Net(count, ties))
    for nets in by_count.values():
        for at, one in enumerate(nets):
            for other in nets[at:at + 3]:
                yield one, other
                yield other, one


class ChangeOrRingTest(Case):
    def check(self, old, new):
        told = self.told_anew(change_or_ring, old, new)
        self.assertEqual([type(thing) for thing in (told,) + told], [tuple, str, list])
        word, row = told
        if word == "ring":
            self.assertGreater(len(row), 0)
            self.assertEqual(len(set(row)), len(row))
            for house, onward in zip(row, row[1:] + row[:1]):
                self.assertTrue(sends(old, new, house, onward))
            self.assertIs(is_change_ring(old, new, row), True)
            self.assertIs(is_change_ring(new, old, row), True)
        else:
            self.assertEqual((word, len(row)), ("falls", len(old)))
            for house in range(len(old)):
                self.assertIs(type(row[house]), int)
                for onward in (old[house], new[house]):
                    if onward is not None:
                        self.assertGreater(row[house], row[onward])
            self.assertIs(are_change_numbers(old, new, row), True)
            self.assertIs(are_change_numbers(new, old, row), True)
        return word

    def test_by_all_mixed_tables(self):
        kinds = set()
        for old, new in SHORT:
            word = self.check(old, new)
            self.assertEqual(word == "ring", can_ring(old, new))
            kinds.add(word)
        self.assertEqual(kinds, {"ring", "falls"})

    def test_larger_tables(self):
        for old, new in PAIRS:
            self.check(old, new)

    def test_all_tables_of_two_houses(self):
        rows = [list(row) for row in itertools.product([None, 0, 1], repeat=2)]
        for old in rows:
            for new in rows:
                self.assertEqual(self.check(old, new) == "ring", can_ring(old, new))

    def test_a_ring_by_both_tables_where_neither_has_one(self):
        self.assertEqual(change_or_ring([1, None], [None, 0])[0], "ring")
        self.assertEqual(sorted(change_or_ring([1, None], [None, 0])[1]), [0, 1])
        told = change_or_ring([1, 2, None, None], [None, None, 3, 0])
        self.assertEqual((told[0], sorted(told[1])), ("ring", [0, 1, 2, 3]))

    def test_a_ring_behind_a_house_that_can_stop(self):
        # From 0 the way leads to the ring of 2 and 3 or to 1, where it stops.
        told = change_or_ring([1, None, 3, 2], [2, None, 3, 2])
        self.assertEqual((told[0], sorted(told[1])), ("ring", [2, 3]))
        told = change_or_ring([1, None, 1, 2], [2, None, 3, 1])
        self.assertEqual((told[0], sorted(told[1])), ("ring", [2, 3]))

    def test_a_house_that_sends_to_itself(self):
        self.assertEqual(change_or_ring([0], [None]), ("ring", [0]))
        self.assertEqual(change_or_ring([None], [0]), ("ring", [0]))
        self.assertEqual(change_or_ring([None, 1, 1], [None, 0, 0]), ("ring", [1]))

    def test_one_house_and_twelve(self):
        self.assertEqual(change_or_ring([None], [None])[0], "falls")
        down, up = [None] + list(range(11)), list(range(1, 12)) + [None]
        self.assertEqual(change_or_ring(down, down)[0], "falls")
        self.assertEqual(change_or_ring(up, up)[0], "falls")
        self.assertEqual(change_or_ring(down, up)[0], "ring")
        self.assertEqual(change_or_ring(down, [None, None] + list(range(10)))[0], "falls")

    def test_tables_of_nets(self):
        for one, other in twins(SMALL[:20]):
            for t in range(one.count):
                old, new = next_table(one, t), next_table(other, t)
                self.assertEqual(self.check(old, new) == "ring", can_ring(old, new))


class IsChangeRingTest(Case):
    def test_all_short_lists(self):
        rows = [([1, 2, None], [None, 0, 0]), ([1, 1, 0], [2, None, 2]), ([None] * 3, [1, 2, 0]), ([0, 0, 0], [1, 1, 1])]
        for old, new in rows:
            for size in range(5):
                for row in itertools.product(range(-1, 4), repeat=size):
                    houses = list(row)
                    good = 0 < size == len(set(row)) and set(row) <= {0, 1, 2}
                    good = good and all(sends(old, new, *step) for step in zip(houses, houses[1:] + houses[:1]))
                    self.assertIs(is_change_ring(old, new, houses), good, (old, new, houses))

    def test_told_by_hand(self):
        old, new = [1, 2, None, None], [None, None, 3, 0]
        for houses in ([0, 1, 2, 3], [2, 3, 0, 1], [3, 0, 1, 2]):
            self.assertIs(self.told_anew(is_change_ring, old, new, houses), True)
        for houses in ([], [0], [3, 2, 1, 0], [0, 1, 2], [0, 1, 2, 3, 0], [0, 1, 2, 3, 0, 1, 2, 3], [1, 2, 3]):
            self.assertIs(is_change_ring(old, new, houses), False)
        for number in (4,) + NUMBERS:
            for houses in ([number], [0, 1, 2, number], [number, 1, 2, 3]):
                self.assertIs(is_change_ring(old, new, houses), False)
        # The number -1 is no house, though a list has a place of that name.
        self.assertIs(is_change_ring(old, new, [0, 1, 2, -1]), False)
        self.assertIs(is_change_ring([0], [None], [0]), True)
        self.assertIs(is_change_ring([None], [None], [0]), False)
        self.assertIs(is_change_ring([0], [0], [0, 0]), False)

    def test_twelve_and_a_hundred(self):
        ring = list(range(1, 12)) + [0]
        self.assertIs(is_change_ring(ring, [None] * 12, list(range(12))), True)
        self.assertIs(is_change_ring([None] * 12, ring, list(range(12))), True)
        self.assertIs(is_change_ring(ring, ring, list(range(11))), False)
        self.assertIs(is_change_ring(ring, ring, (list(range(12)) * 9)[:100]), False)


class AreChangeNumbersTest(Case):
    def test_all_small_numbers(self):
        rows = [([1, 2, None], [None, 2, None]), ([1, None, 0], [None] * 3), ([0, None, None], [None] * 3),
                ([None] * 3, [1, None, 1]), ([1, None, None], [None, 0, None])]
        for old, new in rows:
            for row in itertools.product((-1, 0, 1), repeat=3):
                good = all(row[house] > row[onward] for house in range(3) for onward in range(3)
                           if sends(old, new, house, onward))
                self.assertIs(are_change_numbers(old, new, list(row)), good)

    def test_told_by_hand(self):
        old, new = [1, 2, None], [2, None, None]
        self.assertIs(self.told_anew(are_change_numbers, old, new, [2, 1, 0]), True)
        self.assertIs(are_change_numbers(old, new, [FORTY, 0, -FORTY]), True)
        self.assertIs(are_change_numbers(old, new, [2, 2, 0]), False)
        self.assertIs(are_change_numbers(old, new, [1, 0, 0]), False)
        self.assertIs(are_change_numbers([1, None, None], [2, None, None], [1, 0, 1]), False)
        self.assertIs(are_change_numbers([1, None, None], [2, None, None], [1, 1, 0]), False)
        self.assertIs(are_change_numbers([None], [None], [-5]), True)
        self.assertIs(are_change_numbers([0], [None], [5]), False)

    def test_other_lengths(self):
        old, new = [1, 2, None], [2, None, None]
        for numbers in ([], [2], [2, 1], [2, 1, 0, 0], [3, 2, 1, 0], [2, 1, 0] * 33):
            self.assertIs(are_change_numbers(old, new, numbers), False)
        self.assertIs(are_change_numbers([None], [None], []), False)
        self.assertIs(are_change_numbers([None], [None], [1, 2]), False)


class ChangeOrderTest(Case):
    def test_by_distances_and_none_last(self):
        for one, other in twins(SMALL + LARGE):
            sums = all_distances(other.count, list(other.ties))
            for t in range(one.count):
                houses = changed(next_table(one, t), next_table(other, t))
                near = [house for house in houses if sums[house, t] is not None]
                wanted = sorted(near, key=lambda house: (sums[house, t], house))
                wanted += [house for house in houses if house not in near]
                self.assertEqual(change_order(one, other, t), wanted)

    def test_the_order_holds(self):
        for one, other in twins(SMALL + LARGE):
            for t in range(one.count):
                old, new = next_table(one, t), next_table(other, t)
                self.assertIs(order_holds(old, new, change_order(one, other, t)), True)

    def test_told_by_hand(self):
        ring = self.net(TWELVE_RING)
        left = ring.without(("tie", 0, 1))
        # From 1 to 6 all go the other way round then: 6, which may go either way now, is the nearest.
        self.assertEqual(change_order(ring, left, 0), [6, 5, 4, 3, 2, 1])
        self.assertEqual(change_order(left, ring, 0), [1, 2, 3, 4, 5, 6])
        self.assertEqual(change_order(ring, ring, 0), [])
        line, parted = self.net(LINE), self.net(LINE).without(("tie", 1, 2))
        # Those without a way then come last, the least house first.
        self.assertEqual(change_order(line, parted, 0), [2, 3])
        self.assertEqual(change_order(parted, line, 0), [2, 3])
        self.assertEqual(change_order(line, parted, 3), [0, 1])
        self.assertEqual(change_order(parted, line, 3), [1, 0])

    def test_without_a_way_behind_those_with_one(self):
        one = Net(4, [(0, 1, 1, 1), (1, 2, 1, 1), (2, 3, 1, 1)])
        other = Net(4, [(2, 3, 1, 1), (0, 3, 9, 9)])
        # To 3: house 0 by its own tie then, 1 has no way any more.
        self.assertEqual(change_order(one, other, 3), [0, 1])
        other = Net(4, [(0, 1, 1, 1), (1, 3, 9, 9)])
        self.assertEqual(change_order(one, other, 3), [1, 2])
        other = Net(4, [(1, 3, 9, 9)])
        self.assertEqual(change_order(one, other, 3), [1, 0, 2])

    def test_of_several_the_least_house(self):
        one = Net(5, [(0, 1, 1, 1), (0, 2, 1, 1), (0, 3, 1, 1), (3, 4, 1, 1)])
        other = Net(5, [(1, 4, 2, 2), (2, 4, 2, 2), (3, 4, 2, 2), (0, 4, 1, 1)])
        self.assertEqual(change_order(one, other, 4), [0, 1, 2])
        self.assertEqual(change_order(other, one, 4), [0, 1, 2])

    def test_lists_are_new(self):
        for one, other in twins([TWO, TWO_BARE, SQUARES, UNLIKE_RING, LINE, TWELVE_RING, TWELVE_LINE]):
            for t in range(one.count):
                self.told_anew(change_order, one, other, t)


class OrderHoldsTest(Case):
    def test_all_orders_of_small_tables(self):
        found = set()
        for old, new in SHORT:
            houses = changed(old, new)
            for order in itertools.permutations(houses) if len(houses) <= 4 else [houses, houses[::-1]]:
                tables = [list(old)]
                for house in order:
                    tables.append(list(tables[-1]))
                    tables[-1][house] = new[house]
                good = not any(goes_in_a_ring(table) for table in tables)
                self.assertIs(order_holds(old, new, list(order)), good)
                found.add(good)
        self.assertEqual(found, {True, False})

    def test_good_and_bad_orders(self):
        # To 0 first all by the lower houses, then by the higher ones: the house next to 0 then goes first.
        old, new = [None, 0, 1], [None, 2, 0]
        self.assertIs(self.told_anew(order_holds, old, new, [2, 1]), True)
        self.assertIs(order_holds(old, new, [1, 2]), False)

    def test_one_too_few_too_many_and_twice(self):
        old, new = [None, 0, 1, 0], [None, 2, 0, 0]
        self.assertIs(order_holds(old, new, [2, 1]), True)
        for order in ([], [2], [1], [2, 1, 3], [3, 2, 1], [2, 1, 0], [2, 1, 1], [2, 2, 1], [2, 1, 2, 1]):
            self.assertIs(order_holds(old, new, order), False)

    def test_numbers_that_are_no_houses(self):
        old, new = [None, 0, 1], [None, 2, 0]
        for number in (3,) + NUMBERS:
            for order in ([number], [2, 1, number], [number, 2, 1], [2, number], [number, 1]):
                self.assertIs(order_holds(old, new, order), False)
        # Places from behind, -1 for 2 and -2 for 1, are no houses.
        self.assertIs(order_holds(old, new, [-1, 1]), False)
        self.assertIs(order_holds(old, new, [-1, -2]), False)

    def test_the_same_table_twice(self):
        self.assertIs(order_holds([None, 0], [None, 0], []), True)
        self.assertIs(order_holds([None, 0], [None, 0], [1]), False)
        self.assertIs(order_holds([None], [None], []), True)
        # There is a ring ahead of the first change already.
        self.assertIs(order_holds([1, 0], [1, 0], []), False)
        self.assertIs(order_holds([0], [0], []), False)

    def test_a_ring_ahead_or_at_the_end(self):
        self.assertIs(order_holds([1, 0], [None, 0], [0]), False)
        self.assertIs(order_holds([None, 0], [1, 0], [0]), False)
        self.assertIs(order_holds([0], [None], [0]), False)
        self.assertIs(order_holds([1, None], [None, 0], [0, 1]), True)
        self.assertIs(order_holds([1, None], [None, 0], [1, 0]), False)

    def test_tables_stay(self):
        old, new, order = [None, 0, 1], [None, 2, 0], [2, 1]
        order_holds(old, new, order)
        self.assertEqual((old, new, order), ([None, 0, 1], [None, 2, 0], [2, 1]))
        order.reverse()
        self.assertIs(order_holds(old, new, order), False)


class RefusedTest(Case):
    CALLS = ((change_or_ring, ()), (is_change_ring, ([0],)), (are_change_numbers, ([1, 0],)), (order_holds, ([0, 1],)),
             (is_change_ring, ([],)), (are_change_numbers, ([],)), (order_holds, ([-1],)))

    def test_no_house(self):
        for call, more in self.CALLS:
            for house in (2, 3) + NUMBERS:
                good = [None, 0]
                for table in ([house, None], [0, house], [house, 77]):
                    self.refused(NoHouse, {"house": house}, call, table, good, *more)
                    self.refused(NoHouse, {"house": house}, call, good, table, *more)
                self.refused(NoHouse, {"house": house}, call, [1, house], [-7, -8], *more)
                self.refused(NoHouse, {"house": -7}, call, [1, -7], [house, house], *more)

    def test_no_count(self):
        for call, more in self.CALLS:
            for old, new in (([None], [None, 0]), ([None, 0], [None]), ([0], [1, 0]), ([None] * 11, [None] * 12)):
                self.refused(NoCount, {}, call, old, new, *more)

    def test_no_house_ahead_of_no_count(self):
        for call, more in self.CALLS:
            self.refused(NoHouse, {"house": 1}, call, [1], [1, 0], *more)
            self.refused(NoHouse, {"house": 2}, call, [None], [1, 2], *more)
            self.refused(NoHouse, {"house": 1}, call, [1, 0], [1], *more)
            self.refused(NoHouse, {"house": 5}, call, [5], [6, 7], *more)
            # A house of the longer table is none of the shorter one.
            self.refused(NoHouse, {"house": 2}, call, [2, None], [2, None, None], *more)

    def test_nets(self):
        small, large = self.net(LINE), self.net(PARTED)
        for t in (0, 3, 6, -1, 4, 7, FORTY, -FORTY):
            self.refused(NoCount, {}, change_order, small, large, t)
            self.refused(NoCount, {}, change_order, large, small, t)
        for house in (4, 5) + NUMBERS:
            self.refused(NoHouse, {"house": house}, change_order, small, self.net(UNLIKE_RING), house)
        for house in (12,) + NUMBERS:
            self.refused(NoHouse, {"house": house}, change_order, self.net(TWELVE_WHOLE), self.net(TWELVE_RING), house)


if __name__ == "__main__":
    unittest.main()
