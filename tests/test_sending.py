"""Points 9 to 11: tables, how a sending goes by them, and rings."""

import copy
import random
import unittest

from helping import (FORTY, LARGE, LINE, PARTED, SMALL, SQUARES, TWELVE_LINE, TWELVE_RING, TWELVE_WHOLE, TWO, TWO_BARE,
                     UNLIKE_RING, Case, goes_in_a_ring, least_ways, random_table)
from sparenext.errors import NoHouse
from sparenext.nets import Net
from sparenext.sending import next_table, ring_or_numbers, sent_on
from sparenext.ways import next_house

NUMBERS = (-1, -2, -12, FORTY, -FORTY)
CHANCE = random.Random(3)
CALM = [[None], [None, 0], [1, 2, None], [None] * 12, [None] + list(range(11)), list(range(1, 12)) + [None],
        [3, 3, 3, None], [11] * 11 + [None]]
RINGS = [[0], [0, 0], [1, 0], [1, 2, 0], [None, 1, None], [0] * 12, list(range(12)), list(range(1, 12)) + [0],
         [11] + list(range(11)), [1, 2, 3, 4, 2, None], [1] * 12, [5, 4, 3, 2, 1, 0]]
TABLES = CALM + RINGS + [random_table(CHANCE, CHANCE.randint(1, 12)) for _ in range(150)]


class NextTableTest(Case):
    def test_against_search(self):
        for count, ties in SMALL:
            net = Net(count, ties)
            for t in range(count):
                wanted = []
                for a in range(count):
                    ways = least_ways(ties, a, t)[1]
                    wanted.append(ways[0][1] if ways and a != t else None)
                self.assertEqual(next_table(net, t), wanted)

    def test_is_that_of_the_next_houses(self):
        for count, ties in LARGE:
            net = Net(count, ties)
            for t in range(count):
                self.assertEqual(next_table(net, t), [next_house(net, a, t) for a in range(count)])

    def test_told_by_hand(self):
        self.assertEqual(next_table(self.net(TWO), 0), [None, 0])
        self.assertEqual(next_table(self.net(TWO), 1), [1, None])
        self.assertEqual(next_table(self.net(TWO_BARE), 1), [None, None])
        self.assertEqual(next_table(self.net(LINE), 2), [1, 2, None, 2])
        self.assertEqual(next_table(self.net(UNLIKE_RING), 0), [None, 2, 3, 0])
        self.assertEqual(next_table(self.net(SQUARES), 4), [1, 3, 3, 4, None, 4])
        self.assertEqual(next_table(self.net(PARTED), 4), [None, None, None, None, None, 4, None])
        self.assertEqual(next_table(self.net(PARTED), 6), [None] * 7)
        self.assertEqual(next_table(self.net(TWELVE_LINE), 0), [None] + list(range(11)))
        self.assertEqual(next_table(self.net(TWELVE_RING), 0), [None, 0, 1, 2, 3, 4, 5, 8, 9, 10, 11, 0])

    def test_a_sending_by_it_comes_or_there_is_no_way(self):
        for count, ties in SMALL + LARGE:
            net = Net(count, ties)
            for t in range(count):
                table = next_table(net, t)
                self.assertIs(ring_or_numbers(table)[0], True)
                for a in range(count):
                    comes = a == t or next_house(net, a, t) is not None
                    self.assertEqual(sent_on(table, a, t)[0], "comes" if comes else "stops")

    def test_refused(self):
        for pair in (TWO, TWO_BARE, PARTED, TWELVE_WHOLE):
            net = self.net(pair)
            for house in (net.count,) + NUMBERS:
                self.refused(NoHouse, {"house": house}, next_table, net, house)

    def test_told_anew(self):
        for pair in (TWO, PARTED, TWELVE_RING):
            net = self.net(pair)
            for t in range(net.count):
                self.told_anew(next_table, net, t)


class SentOnTest(Case):
    def told(self, table, start, target):
        kept = list(table)
        told = self.told_anew(sent_on, table, start, target)
        self.assertIs(type(told), tuple)
        self.assertEqual(table, kept)
        return told

    def test_comes(self):
        self.assertEqual(self.told([1, 2, None], 0, 2), ("comes", [0, 1, 2]))
        self.assertEqual(self.told([1, 2, 0], 0, 1), ("comes", [0, 1]))
        self.assertEqual(self.told([1, 2, 0], 1, 0), ("comes", [1, 2, 0]))
        self.assertEqual(self.told([1, 2, 2], 0, 2), ("comes", [0, 1, 2]))
        self.assertEqual(self.told(list(range(1, 12)) + [None], 0, 11), ("comes", list(range(12))))
        self.assertEqual(self.told(list(range(1, 12)) + [0], 5, 4), ("comes", [5, 6, 7, 8, 9, 10, 11, 0, 1, 2, 3, 4]))

    def test_a_start_that_is_the_target(self):
        for table in ([None], [0], [1, 0], [None] * 12, list(range(12)), [3, 3, 3, None]):
            for house in range(len(table)):
                self.assertEqual(self.told(table, house, house), ("comes", [house]))

    def test_stops(self):
        self.assertEqual(self.told([None, None], 0, 1), ("stops", [0]))
        self.assertEqual(self.told([1, 2, None, None], 0, 3), ("stops", [0, 1, 2]))
        self.assertEqual(self.told([None] + list(range(10)) + [None], 10, 11),
                         ("stops", [10, 9, 8, 7, 6, 5, 4, 3, 2, 1, 0]))

    def test_ring(self):
        self.assertEqual(self.told([0, None], 0, 1), ("ring", [0, 0]))
        self.assertEqual(self.told([1, 0, None], 0, 2), ("ring", [0, 1, 0]))
        self.assertEqual(self.told([1, 2, 3, 1, None], 0, 4), ("ring", [0, 1, 2, 3, 1]))
        self.assertEqual(self.told([1, 2, 2, None], 0, 3), ("ring", [0, 1, 2, 2]))
        self.assertEqual(self.told(list(range(1, 11)) + [0, None], 4, 11),
                         ("ring", [4, 5, 6, 7, 8, 9, 10, 0, 1, 2, 3, 4]))

    def test_the_target_in_a_ring(self):
        self.assertEqual(self.told([1, 2, 0], 0, 2), ("comes", [0, 1, 2]))
        self.assertEqual(self.told([0, 0], 1, 0), ("comes", [1, 0]))
        self.assertEqual(self.told([1, 2, 1], 0, 2), ("comes", [0, 1, 2]))

    def test_tables_of_one_house(self):
        self.assertEqual(self.told([None], 0, 0), ("comes", [0]))
        self.assertEqual(self.told([0], 0, 0), ("comes", [0]))

    def test_against_plain_steps(self):
        for table in TABLES:
            for start in range(len(table)):
                for target in range(len(table)):
                    text, houses = sent_on(table, start, target)
                    self.assertEqual(houses[0], start)
                    self.assertEqual([table[house] for house in houses[:-1]], houses[1:])
                    self.assertEqual(len(set(houses[:-1])), len(houses) - 1)
                    self.assertNotIn(target, houses[:-1])
                    self.assertEqual(text == "comes", houses[-1] == target)
                    self.assertEqual(text == "ring", houses[-1] in houses[:-1])
                    if text not in ("comes", "ring"):
                        self.assertEqual((text, table[houses[-1]]), ("stops", None))

    def test_refused(self):
        for house in (3,) + NUMBERS:
            for call in ([[house, 0, 1], 0, 0], [[None, house, 1], 0, 0], [[1, 2, house], 0, 0],
                         [[1, 2, 0], house, 0], [[1, 2, 0], 0, house], [[1, 2, 0], house, house]):
                self.refused(NoHouse, {"house": house}, sent_on, *call)
        for house in (1, 2) + NUMBERS:
            self.refused(NoHouse, {"house": house}, sent_on, [house], 0, 0)
            self.refused(NoHouse, {"house": house}, sent_on, [None], house, 0)
            self.refused(NoHouse, {"house": house}, sent_on, [0], 0, house)
        for house in (12, 13) + NUMBERS:
            self.refused(NoHouse, {"house": house}, sent_on, [None] * 11 + [house], 0, 0)
            self.refused(NoHouse, {"house": house}, sent_on, [None] * 12, 3, house)

    def test_several_refused_at_once(self):
        self.refused(NoHouse, {"house": 7}, sent_on, [1, 7, 8], 9, 10)
        self.refused(NoHouse, {"house": -4}, sent_on, [None, 0, -4], -5, -6)
        self.refused(NoHouse, {"house": 9}, sent_on, [1, 2, 0], 9, 10)
        self.refused(NoHouse, {"house": -1}, sent_on, [1, 2, 0], -1, 3)
        self.refused(NoHouse, {"house": 3}, sent_on, [1, 3, -1], 0, 0)


class RingOrNumbersTest(Case):
    def check(self, table):
        told = self.told_anew(ring_or_numbers, table)
        self.assertIs(type(told), tuple)
        calm, numbers = told
        self.assertIs(calm, not goes_in_a_ring(table))
        if calm:
            self.assertEqual(len(numbers), len(table))
            for house, onward in enumerate(table):
                self.assertIs(type(numbers[house]), int)
                if onward is not None:
                    self.assertGreater(numbers[house], numbers[onward])
        else:
            self.assertGreater(len(numbers), 0)
            self.assertEqual(len(set(numbers)), len(numbers))
            self.assertEqual([table[house] for house in numbers], numbers[1:] + numbers[:1])

    def test_numbers_or_ring(self):
        for table in TABLES:
            kept = copy.deepcopy(table)
            self.check(table)
            self.assertEqual(table, kept)

    def test_which(self):
        for table in CALM:
            self.assertIs(ring_or_numbers(table)[0], True)
        for table in RINGS:
            self.assertIs(ring_or_numbers(table)[0], False)

    def test_all_small_tables(self):
        for first in (None, 0, 1, 2):
            self.check([first] if first in (None, 0) else [first, None, None])
            for second in (None, 0, 1, 2):
                for third in (None, 0, 1, 2):
                    self.check([first, second, third])

    def test_the_one_ring_there_is(self):
        self.assertEqual(sorted(ring_or_numbers([1, 2, 3, 4, 2, None])[1]), [2, 3, 4])
        self.assertEqual(ring_or_numbers([None, 1, 1]), (False, [1]))

    def test_refused(self):
        for house in (3, 4) + NUMBERS:
            for table in ([house, None, None], [0, house, 0], [1, 2, house], [house, 77, house]):
                self.refused(NoHouse, {"house": house}, ring_or_numbers, table)
        self.refused(NoHouse, {"house": 1}, ring_or_numbers, [1])
        self.refused(NoHouse, {"house": 12}, ring_or_numbers, [0] * 11 + [12])
        self.refused(NoHouse, {"house": -1}, ring_or_numbers, [0, 1, -1, 9])

    def test_what_was_told_can_be_changed(self):
        table = [1, 0, 2]
        told = ring_or_numbers(table)[1]
        told.clear()
        self.assertEqual(sent_on(table, 0, 2), ("ring", [0, 1, 0]))
        table[1] = None
        table[2] = None
        self.assertIs(ring_or_numbers(table)[0], True)
        self.assertEqual(sent_on(table, 0, 2), ("stops", [0, 1]))


if __name__ == "__main__":
    unittest.main()
