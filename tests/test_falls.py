"""Points 15 and 16, and of point 4 what it says of one fall: how all send then, and who is lost."""

import unittest

from helping import (FORTY, LARGE, LINE, PARTED, SMALL, SQUARES, TWELVE_RING, TWELVE_WHOLE, TWO, TWO_BARE, UNLIKE_RING,
                     Case, all_distances, all_falls, hits, ties_left)
from sparenext.errors import NoHouse, NoNeed, NoTie
from sparenext.falls import fallen_table, lost_houses, walked_all
from sparenext.nets import Net
from sparenext.sending import next_table, ring_or_numbers, sent_on
from sparenext.spares import spare_of

NUMBERS = (-1, -12, FORTY, -FORTY)
CALLS = (fallen_table, walked_all, lost_houses)

# A square with a tail: 0 and 3 joined by 1 and by 2, and 4 hanging by 3.
TAILED = (5, [(0, 1, 1, 1), (1, 3, 1, 1), (0, 2, 2, 2), (2, 3, 2, 2), (3, 4, 1, 1)])


def asked(pairs):
    """Tells all nets, targets and falls that can be asked about."""
    for count, ties in pairs:
        net = Net(count, ties)
        for fall in all_falls(count, ties):
            for t in range(count):
                if fall != ("house", t):
                    yield net, ties, t, fall


class FallenTableTest(Case):
    def test_as_before_but_to_spares(self):
        for net, _, t, fall in asked(SMALL + LARGE):
            wanted = []
            for a, e in enumerate(next_table(net, t)):
                if fall == ("house", a):
                    e = None
                elif e is not None and hits(fall, a, e):
                    found, spare = spare_of(net, a, t, fall[0])
                    e = spare if found else None
                wanted.append(e)
            self.assertEqual(fallen_table(net, t, fall), wanted)

    def test_told_by_hand(self):
        net = self.net(TAILED)
        self.assertEqual(next_table(net, 4), [1, 3, 3, 4, None])
        self.assertEqual(fallen_table(net, 4, ("tie", 0, 1)), [2, 3, 3, 4, None])
        self.assertEqual(fallen_table(net, 4, ("tie", 1, 0)), [2, 3, 3, 4, None])
        self.assertEqual(fallen_table(net, 4, ("house", 1)), [2, None, 3, 4, None])
        # House 1 alone sends over the tie to 3, and 0, its other neighbour, sends back.
        self.assertEqual(fallen_table(net, 4, ("tie", 3, 1)), [1, None, 3, 4, None])
        self.assertEqual(fallen_table(net, 4, ("tie", 3, 4)), [1, 3, 3, None, None])
        self.assertEqual(fallen_table(net, 4, ("house", 3)), [1, None, None, None, None])

    def test_a_tie_that_nobody_sends_over(self):
        net = self.net(TAILED)
        for fall in (("tie", 0, 2), ("tie", 2, 0)):
            self.assertEqual(fallen_table(net, 4, fall), next_table(net, 4))
        net = Net(3, [(0, 1, 9, 9), (1, 2, 1, 1), (0, 2, 1, 1)])
        for t in range(3):
            self.assertEqual(fallen_table(net, t, ("tie", 1, 0)), next_table(net, t))

    def test_a_house_that_nobody_sends_to(self):
        net = self.net(TAILED)
        self.assertEqual(fallen_table(net, 4, ("house", 0)), [None, 3, 3, 4, None])

    def test_two_houses(self):
        net = self.net(TWO)
        for t in range(2):
            self.assertEqual(fallen_table(net, t, ("tie", 0, 1)), [None, None])
            self.assertEqual(fallen_table(net, t, ("house", 1 - t)), [None, None])
        self.assertEqual(fallen_table(self.net(TWO_BARE), 0, ("house", 1)), [None, None])

    def test_lists_are_new(self):
        for net, _, t, fall in asked([TWO, TAILED, UNLIKE_RING, TWELVE_RING]):
            self.told_anew(fallen_table, net, t, fall)


class PromiseTest(Case):
    def test_every_sending_comes_or_stops_where_it_is_told(self):
        for net, ties, t, fall in asked(SMALL + LARGE):
            before = all_distances(net.count, ties)
            nexts = next_table(net, t)
            table = fallen_table(net, t, fall)
            self.assertIs(ring_or_numbers(table)[0], True)
            for start in range(net.count):
                text, houses = sent_on(table, start, t)
                self.assertIn(text, ("comes", "stops"))
                for here, there in zip(houses, houses[1:]):
                    self.assertFalse(hits(fall, here, there))
                    self.assertIsNotNone(net.weight(here, there))
                turned = [here for here, there in zip(houses, houses[1:]) if nexts[here] != there]
                self.assertLessEqual(len(turned), 1)
                last = houses[-1]
                if text == "stops" and before[last, t] is not None and fall != ("house", last):
                    self.assertTrue(hits(fall, last, nexts[last]))
                    self.assertIs(spare_of(net, last, t, fall[0])[0], False)


class WalkedAllTest(Case):
    def test_what_sent_on_tells_of_the_table(self):
        for net, _, t, fall in asked(SMALL + LARGE):
            table = fallen_table(net, t, fall)
            walked = walked_all(net, t, fall)
            self.assertEqual(walked, [sent_on(table, start, t) for start in range(net.count)])

    def test_told_by_hand(self):
        net = self.net(TAILED)
        self.assertEqual(walked_all(net, 4, ("house", 1)), [
            ("comes", [0, 2, 3, 4]), ("stops", [1]), ("comes", [2, 3, 4]), ("comes", [3, 4]), ("comes", [4])])
        self.assertEqual(walked_all(net, 4, ("tie", 1, 3)), [
            ("stops", [0, 1]), ("stops", [1]), ("comes", [2, 3, 4]), ("comes", [3, 4]), ("comes", [4])])
        self.assertEqual(walked_all(net, 4, ("tie", 0, 1)), [
            ("comes", [0, 2, 3, 4]), ("comes", [1, 3, 4]), ("comes", [2, 3, 4]), ("comes", [3, 4]), ("comes", [4])])
        self.assertEqual(walked_all(self.net(TWO), 0, ("tie", 1, 0)), [("comes", [0]), ("stops", [1])])

    def test_lists_are_new(self):
        for net, _, t, fall in asked([TWO, TAILED, UNLIKE_RING, TWELVE_RING]):
            self.told_anew(walked_all, net, t, fall)


class LostHousesTest(Case):
    def test_those_with_a_way_left_that_do_not_come(self):
        for net, ties, t, fall in asked(SMALL + LARGE):
            left = all_distances(net.count, ties_left(ties, fall))
            wanted = [house for house, (text, _) in enumerate(walked_all(net, t, fall))
                      if text != "comes" and left[house, t] is not None]
            told = lost_houses(net, t, fall)
            self.assertEqual(told, wanted)
            self.assertNotIn(t, told)
            if fall[0] == "house":
                self.assertNotIn(fall[1], told)

    def test_told_by_hand(self):
        net = self.net(TAILED)
        # From 0 and 1 there is a way by 2 yet, but 1 has no spare.
        self.assertEqual(lost_houses(net, 4, ("tie", 1, 3)), [0, 1])
        self.assertEqual(lost_houses(net, 4, ("tie", 0, 1)), [])
        self.assertEqual(lost_houses(net, 4, ("house", 1)), [])
        # No way is left, so nobody counts as lost.
        self.assertEqual(lost_houses(net, 4, ("tie", 3, 4)), [])
        self.assertEqual(lost_houses(net, 4, ("house", 3)), [])
        # House 6, from which both ways round are least, goes on to 5, and has 7 as its spare.
        self.assertEqual(lost_houses(self.net(TWELVE_RING), 0, ("tie", 0, 1)), [1, 2, 3, 4, 5, 6])
        self.assertEqual(lost_houses(self.net(TWELVE_RING), 0, ("tie", 5, 6)), [])
        self.assertEqual(lost_houses(self.net(TWELVE_RING), 0, ("house", 3)), [4, 5, 6])
        self.assertEqual(lost_houses(self.net(TWELVE_RING), 0, ("house", 5)), [])

    def test_lists_are_new(self):
        for net, _, t, fall in asked([TWO, TAILED, UNLIKE_RING, TWELVE_RING]):
            walked = walked_all(net, t, fall)
            self.told_anew(lost_houses, net, t, fall)
            self.assertEqual(walked_all(net, t, fall), walked)


class RefusedTest(Case):
    def test_no_house(self):
        for call in CALLS:
            for pair in (TWO, TWO_BARE, TAILED, TWELVE_WHOLE):
                net = self.net(pair)
                for house in (net.count,) + NUMBERS:
                    field = {"house": house}
                    for fall in (("tie", 0, 1), ("tie", 0, 0), ("house", 0), ("tie", -7, 1), ("house", -7)):
                        self.refused(NoHouse, field, call, net, house, fall)
                    for fall in (("tie", house, 0), ("tie", 0, house), ("tie", house, -7), ("house", house)):
                        self.refused(NoHouse, field, call, net, 0, fall)

    def test_no_tie(self):
        for call in CALLS:
            for t in range(5):
                for fall in (("tie", 0, 3), ("tie", 4, 1), ("tie", 2, 2)):
                    self.refused(NoTie, {"place": None}, call, self.net(TAILED), t, fall)
            self.refused(NoTie, {"place": None}, call, self.net(TWO_BARE), 0, ("tie", 0, 1))
            self.refused(NoTie, {"place": None}, call, self.net(PARTED), 3, ("tie", 3, 6))

    def test_a_fallen_target(self):
        for call in CALLS:
            for pair in (TWO, TWO_BARE, LINE, SQUARES, PARTED, TWELVE_WHOLE):
                net = self.net(pair)
                for t in range(net.count):
                    self.refused(NoNeed, {}, call, net, t, ("house", t))

    def test_a_tie_of_the_target_is_no_fallen_target(self):
        for call in CALLS:
            call(self.net(TWO), 0, ("tie", 0, 1))
            call(self.net(TAILED), 4, ("tie", 4, 3))


if __name__ == "__main__":
    unittest.main()
