"""Point 35: how many sendings go over each tie, and where most do."""

import unittest

from helping import (FORTY, LARGE, LINE, PARTED, SMALL, SQUARES, TWELVE_LINE, TWELVE_RING, TWELVE_WHOLE, TWO, TWO_BARE,
                     UNLIKE_RING, Case, all_falls, plain_fallen_table, plain_table, plain_walk, ties_left)
from sparenext.errors import NoHouse, NoTie, NoWord
from sparenext.loads import heaviest, loads
from sparenext.nets import Net

NUMBERS = (-1, -2, -12, FORTY, -FORTY)
WORDS = ("tie", "house")
OTHER_WORDS = ("", "ties", "houses", "Tie", "HOUSE", " tie", "tiehouse", "none", "t" * 800)

THREE = (3, [(0, 1, 1, 1), (1, 2, 1, 1)])
# A square with a tail: 0 and 3 joined by 1 and by 2, and 4 hanging by 3.
TAILED = (5, [(0, 1, 1, 1), (1, 3, 1, 1), (0, 2, 2, 2), (2, 3, 2, 2), (3, 4, 1, 1)])


def plain_loads(count, ties, fall):
    """Tells the loads, sending by sending, without the program."""
    left = ties if fall is None else ties_left(ties, fall)
    counts = {pair: 0 for a, b, _, _ in left for pair in ((a, b), (b, a))}
    for t in range(count):
        if fall != ("house", t):
            table = plain_table(count, ties, t) if fall is None else plain_fallen_table(count, ties, t, fall)
            for start in range(count):
                if start != t and fall != ("house", start):
                    houses = plain_walk(table, start, t)
                    for step in zip(houses, houses[1:]):
                        counts[step] += 1
    return [pair + (counts[pair],) for pair in sorted(counts)]


def falls_by(count, ties, word):
    """Tells all falls of a kind, each tie with the lesser house first."""
    if word == "house":
        return [("house", house) for house in range(count)]
    return [("tie", min(tie[:2]), max(tie[:2])) for tie in ties]


class LoadsTest(Case):
    def test_without_a_fall(self):
        for count, ties in SMALL + LARGE:
            told = loads(Net(count, ties), None)
            self.assertEqual(told, plain_loads(count, ties, None))
            self.assertEqual(len(told), 2 * len(ties))
            self.assertTrue(all(type(row) is tuple for row in told))

    def test_each_tie_and_each_house_as_the_fall(self):
        for count, ties in SMALL + LARGE[:6]:
            net = Net(count, ties)
            for fall in all_falls(count, ties):
                self.assertEqual(loads(net, fall), plain_loads(count, ties, fall), (count, ties, fall))

    def test_told_by_hand(self):
        net = self.net(THREE)
        self.assertEqual(loads(net, None), [(0, 1, 2), (1, 0, 2), (1, 2, 2), (2, 1, 2)])
        # From 2 to 0 it goes over the tie to 1 yet, and stops there.
        for fall in (("tie", 0, 1), ("tie", 1, 0)):
            self.assertEqual(loads(net, fall), [(1, 2, 1), (2, 1, 2)])
        for fall in (("tie", 1, 2), ("tie", 2, 1)):
            self.assertEqual(loads(net, fall), [(0, 1, 2), (1, 0, 1)])
        # Neither from the fallen house nor to it.
        self.assertEqual(loads(net, ("house", 0)), [(1, 2, 1), (2, 1, 1)])
        self.assertEqual(loads(net, ("house", 2)), [(0, 1, 1), (1, 0, 1)])
        self.assertEqual(loads(net, ("house", 1)), [])

    def test_told_by_hand_with_a_detour(self):
        net = self.net(TAILED)
        # From 1 to 2, and back, it goes by 0 and by 3 alike, so by 0.
        self.assertEqual(loads(net, None), [(0, 1, 4), (0, 2, 2), (1, 0, 4), (1, 3, 4), (2, 0, 2), (2, 3, 2),
                                            (3, 1, 4), (3, 2, 2), (3, 4, 4), (4, 3, 4)])
        # From 0 to 3 and to 4 it goes over to 1 still, which has no spare to either. 3 has 2 to 0, but none to 1.
        wanted = [(0, 1, 4), (0, 2, 2), (1, 0, 2), (2, 0, 4), (2, 3, 2), (3, 2, 4), (3, 4, 2), (4, 3, 4)]
        self.assertEqual(loads(net, ("tie", 1, 3)), wanted)
        self.assertEqual(loads(net, ("tie", 3, 1)), wanted)

    def test_sendings_that_stop_count_where_they_went(self):
        told = {row[:2]: row[2] for row in loads(self.net(TWELVE_LINE), ("tie", 5, 6))}
        # Over the tie from 4 to 5 go five houses to 5 and to the six behind the fall, where they stop at 5.
        self.assertEqual(told[(4, 5)], 5 * 7)
        self.assertEqual(told[(7, 6)], 5 * 7)
        # The other way about only 5, and only 6, has anybody to send to.
        self.assertEqual((told[(5, 4)], told[(6, 7)]), (5, 5))
        self.assertEqual(len(told), 20)

    def test_nets_without_ties(self):
        for count in (2, 12):
            self.assertEqual(loads(Net(count, []), None), [])
            self.assertEqual(loads(Net(count, []), ("house", 1)), [])
        self.assertEqual(loads(self.net(TWO), None), [(0, 1, 1), (1, 0, 1)])
        for fall in (("tie", 0, 1), ("tie", 1, 0), ("house", 0), ("house", 1)):
            self.assertEqual(loads(self.net(TWO), fall), [])

    def test_lists_are_new(self):
        for pair in (TWO, THREE, TAILED, PARTED):
            net = self.net(pair)
            for fall in [None] + all_falls(*pair):
                self.told_anew(loads, net, fall)
            self.assertEqual(net.ties, self.net(pair).ties)


class HeaviestTest(Case):
    def check(self, pair, word):
        count, ties = pair
        rows = [(-load, fall, a, b) for fall in falls_by(count, ties, word)
                for a, b, load in plain_loads(count, ties, fall)]
        told = heaviest(self.net(pair), word)
        if not rows:
            self.assertIsNone(told)
        else:
            least = min(rows)
            self.assertEqual(told, (least[1], least[2], least[3], -least[0]))
            self.assertEqual([type(thing) for thing in (told,) + told], [tuple, tuple, int, int, int])

    def test_by_all_falls(self):
        for pair in SMALL + LARGE[:6] + [TAILED, THREE, TWO_BARE]:
            for word in WORDS:
                self.check(pair, word)

    def test_told_by_hand(self):
        # Both falls of a tie leave a load of 2; of the least one it goes from 2 to 1.
        self.assertEqual(heaviest(self.net(THREE), "tie"), (("tie", 0, 1), 2, 1, 2))
        self.assertEqual(heaviest(self.net(THREE), "house"), (("house", 0), 1, 2, 1))
        self.assertEqual(heaviest(Net(3, [(1, 2, 5, 5)]), "house"), (("house", 0), 1, 2, 1))
        self.assertEqual(heaviest(Net(3, [(2, 0, 5, 5), (2, 1, 5, 5)]), "tie"), (("tie", 0, 2), 1, 2, 2))
        self.assertEqual(heaviest(Net(4, [(0, 1, 1, 1), (2, 3, 1, 1)]), "tie"), (("tie", 0, 1), 2, 3, 1))
        self.assertEqual(heaviest(Net(4, [(0, 1, 1, 1), (2, 3, 1, 1)]), "house"), (("house", 0), 2, 3, 1))

    def test_of_several_the_least_fall_as_a_tuple(self):
        told = heaviest(self.net(TWELVE_RING), "house")
        rows = [(-load, fall, a, b) for fall in falls_by(*TWELVE_RING, "house")
                for a, b, load in loads(self.net(TWELVE_RING), fall)]
        self.assertEqual(told, (min(rows)[1], min(rows)[2], min(rows)[3], -min(rows)[0]))
        self.assertEqual(told[0], ("house", 0))
        # The houses 2 and 10 are numbers here, and 10 is not the lesser one.
        self.check((12, [(2, 11, 1, 1), (10, 11, 1, 1), (0, 11, 1, 1)]), "tie")
        self.assertEqual(heaviest(Net(12, [(2, 11, 1, 1), (10, 11, 1, 1)]), "tie"), (("tie", 2, 11), 10, 11, 2))

    def test_none(self):
        for word in WORDS:
            self.assertIsNone(heaviest(self.net(TWO), word))
            self.assertIsNone(heaviest(self.net(TWO_BARE), word))
            self.assertIsNone(heaviest(Net(12, []), word))
        # The only tie has fallen; or any house but those of it.
        self.assertIsNone(heaviest(Net(3, [(0, 1, 1, 1)]), "tie"))
        self.assertEqual(heaviest(Net(3, [(0, 1, 1, 1)]), "house"), (("house", 2), 0, 1, 1))

    def test_twelve_houses(self):
        for pair in (TWELVE_WHOLE, TWELVE_LINE):
            for word in WORDS:
                fall, a, b, load = heaviest(self.net(pair), word)
                self.assertIn((a, b, load), loads(self.net(pair), fall))

    def test_asked_again(self):
        for pair in (THREE, TAILED, UNLIKE_RING, SQUARES):
            net = self.net(pair)
            for word in WORDS:
                first = heaviest(net, word)
                loads(net, None).clear()
                self.assertEqual(heaviest(net, word), first)
            self.assertEqual(net.ties, self.net(pair).ties)


class RefusedTest(Case):
    def test_falls_of_no_houses(self):
        for pair in (TWO, TWO_BARE, TAILED, TWELVE_WHOLE):
            net = self.net(pair)
            for house in (net.count,) + NUMBERS:
                for fall in (("house", house), ("tie", house, 0), ("tie", 0, house), ("tie", house, -7)):
                    self.refused(NoHouse, {"house": house}, loads, net, fall)

    def test_falls_of_no_tie(self):
        for pair, fall in ((TWO_BARE, ("tie", 0, 1)), (TWO, ("tie", 0, 0)), (LINE, ("tie", 3, 0)),
                           (PARTED, ("tie", 3, 6)), (TAILED, ("tie", 4, 0))):
            self.refused(NoTie, {"place": None}, loads, self.net(pair), fall)

    def test_another_word(self):
        for pair in (TWO, TWO_BARE, THREE, TWELVE_WHOLE):
            for word in OTHER_WORDS:
                self.refused(NoWord, {}, heaviest, self.net(pair), word)


if __name__ == "__main__":
    unittest.main()
