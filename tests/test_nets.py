"""Points 2, 5 and 6: how a net is made, what it tells, and what it refuses."""

import unittest

from helping import FORTY, LARGE, LINE, PARTED, SMALL, TWELVE_WHOLE, Case, weights_of
from sparenext.errors import NoCount, NoHouse, NoTie, NoWeight
from sparenext.nets import Net


class CountTest(Case):
    def test_counts_from_two_to_twelve(self):
        for count in range(2, 13):
            net = Net(count, [])
            self.assertEqual(net.count, count)
            self.assertIs(type(net.count), int)
            self.assertEqual(net.ties, ())

    def test_other_counts(self):
        for count in (1, 13, 0, -1, -2, -12, 14, 100, FORTY, -FORTY):
            self.refused(NoCount, {}, Net, count, [])

    def test_the_count_ahead_of_all_else(self):
        wrong = [(0, 0, 0, 0), (50, 0, 1, 1), (0, -1, 1, 1)]
        for count in (0, 1, 13, -FORTY, FORTY):
            self.refused(NoCount, {}, Net, count, wrong)
            self.refused(NoCount, {}, Net, count, [(0, 1, 1, 1)])


class HouseInTieTest(Case):
    def test_one_number_that_is_no_house(self):
        for house in (4, -1, 12, FORTY, -FORTY):
            self.refused(NoHouse, {"house": house}, Net, 4, [(house, 1, 1, 1)])
            self.refused(NoHouse, {"house": house}, Net, 4, [(1, house, 1, 1)])
            self.refused(NoHouse, {"house": house}, Net, 4, [(0, 1, 1, 1), (2, house, 1, 1), (1, 3, 1, 1)])

    def test_the_first_such_in_the_list(self):
        self.refused(NoHouse, {"house": 9}, Net, 4, [(0, 1, 1, 1), (9, 8, 1, 1), (7, 6, 1, 1)])
        self.refused(NoHouse, {"house": 8}, Net, 4, [(0, 1, 1, 1), (2, 8, 1, 1), (7, 6, 1, 1)])
        self.refused(NoHouse, {"house": 5}, Net, 4, [(5, 2, 1, 1), (-1, -2, 1, 1)])
        self.refused(NoHouse, {"house": -3}, Net, 4, [(3, -3, 1, 1), (4, 1, 1, 1)])

    def test_ahead_of_ties_and_weights_wherever_they_stand(self):
        self.refused(NoHouse, {"house": 4}, Net, 4, [(1, 1, 1, 1), (0, 1, 0, 0), (1, 0, 1, 1), (2, 4, 1, 1)])
        self.refused(NoHouse, {"house": 6}, Net, 4, [(6, 6, 0, 0)])
        self.refused(NoHouse, {"house": 2}, Net, 2, [(0, 1, 1, 1), (0, 2, 1, 1)])
        self.refused(NoHouse, {"house": 12}, Net, 12, [(12, 11, 1, 1)])


class TieTest(Case):
    def test_a_house_and_itself(self):
        for house in range(4):
            self.refused(NoTie, {"place": 0}, Net, 4, [(house, house, 1, 1)])
        self.refused(NoTie, {"place": 2}, Net, 4, [(0, 1, 1, 1), (1, 2, 1, 1), (2, 2, 1, 1), (3, 3, 1, 1)])

    def test_the_same_two_houses_twice(self):
        self.refused(NoTie, {"place": 1}, Net, 4, [(0, 1, 1, 1), (0, 1, 1, 1)])
        self.refused(NoTie, {"place": 1}, Net, 4, [(0, 1, 1, 1), (1, 0, 2, 3)])
        self.refused(NoTie, {"place": 1}, Net, 2, [(1, 0, 1, 1), (0, 1, 2, 3)])
        self.refused(NoTie, {"place": 3}, Net, 4, [(0, 1, 1, 1), (1, 2, 1, 1), (0, 2, 1, 1), (2, 1, 1, 1)])

    def test_the_first_such_place(self):
        self.refused(NoTie, {"place": 2}, Net, 4, [(0, 1, 1, 1), (1, 2, 1, 1), (2, 1, 1, 1), (3, 3, 1, 1)])
        self.refused(NoTie, {"place": 1}, Net, 4, [(0, 1, 1, 1), (2, 2, 1, 1), (1, 0, 1, 1)])
        self.refused(NoTie, {"place": 2}, Net, 4, [(0, 1, 1, 1), (2, 3, 1, 1), (3, 2, 1, 1), (1, 0, 1, 1)])

    def test_ahead_of_weights_wherever_they_stand(self):
        self.refused(NoTie, {"place": 1}, Net, 4, [(0, 1, 0, 0), (2, 2, 1, 1)])
        self.refused(NoTie, {"place": 2}, Net, 4, [(0, 1, 1, 0), (1, 2, 1, 1), (0, 1, 1, 1)])
        self.refused(NoTie, {"place": 0}, Net, 4, [(2, 2, -1, -1)])

    def test_a_hundred_ties(self):
        self.refused(NoTie, {"place": 66}, Net, 12, (TWELVE_WHOLE[1] * 2)[:100])


class WeightTest(Case):
    def test_a_weight_below_one(self):
        for weight in (0, -1, -FORTY):
            self.refused(NoWeight, {"place": 0}, Net, 4, [(0, 1, weight, 1)])
            self.refused(NoWeight, {"place": 0}, Net, 4, [(1, 0, 1, weight)])
            self.refused(NoWeight, {"place": 2}, Net, 4, [(0, 1, 1, 1), (1, 2, 1, 1), (2, 3, 4, weight)])
            self.refused(NoWeight, {"place": 2}, Net, 4, [(0, 1, 1, 1), (1, 2, 1, 1), (2, 3, weight, 4)])

    def test_the_first_such_place(self):
        self.refused(NoWeight, {"place": 1}, Net, 4, [(0, 1, 1, 1), (1, 2, 1, 0), (2, 3, 0, 1)])
        self.refused(NoWeight, {"place": 1}, Net, 4, [(2, 3, 1, 1), (1, 2, 0, 1), (0, 1, 0, 0)])

    def test_weights_of_forty_figures(self):
        net = Net(3, [(1, 0, FORTY, 1), (2, 1, FORTY - 1, FORTY)])
        self.assertEqual(net.ties, ((0, 1, 1, FORTY), (1, 2, FORTY, FORTY - 1)))
        self.assertEqual(net.weight(1, 0), FORTY)


class FieldTest(Case):
    def test_the_lesser_house_first_and_rising(self):
        net = Net(4, [(3, 2, 7, 8), (0, 3, 1, 2), (1, 0, 3, 4), (2, 0, 5, 6)])
        self.assertEqual(net.ties, ((0, 1, 4, 3), (0, 2, 6, 5), (0, 3, 1, 2), (2, 3, 8, 7)))

    def test_rising_as_numbers(self):
        net = Net(12, [(0, 10, 1, 1), (0, 2, 1, 1), (10, 2, 5, 6), (0, 11, 1, 1), (9, 2, 3, 4)])
        self.assertEqual(net.ties, ((0, 2, 1, 1), (0, 10, 1, 1), (0, 11, 1, 1), (2, 9, 4, 3), (2, 10, 6, 5)))

    def test_any_order_and_either_house_first_make_the_same_net(self):
        count, ties = PARTED
        for handed in (ties, ties[::-1], ties[2:] + ties[:2]):
            turned = [(b, a, back, there) for a, b, there, back in handed]
            for made in (Net(count, list(handed)), Net(count, turned)):
                self.assertEqual(made.ties, ((0, 1, 2, 3), (0, 2, 4, 4), (1, 2, 2, 3), (4, 5, 1, 7)))

    def test_kinds(self):
        net = self.net(LINE)
        self.assertIs(type(net.ties), tuple)
        for tie in net.ties:
            self.assertIs(type(tie), tuple)

    def test_by_place_and_of_a_whole_net(self):
        net = self.net(TWELVE_WHOLE)
        self.assertEqual(net.count, 12)
        self.assertEqual(net.ties, tuple(TWELVE_WHOLE[1]))


class HandedInTest(Case):
    def test_the_list_of_ties_stays(self):
        ties = [(3, 2, 7, 8), (1, 0, 3, 4)]
        Net(4, ties)
        self.assertEqual(ties, [(3, 2, 7, 8), (1, 0, 3, 4)])

    def test_changing_the_list_behind_the_call(self):
        ties = [(0, 1, 3, 4), (1, 2, 1, 1)]
        net = Net(4, ties)
        ties[0] = (0, 3, 9, 9)
        ties.append((2, 3, 1, 1))
        ties.pop(1)
        self.assertEqual(net.ties, ((0, 1, 3, 4), (1, 2, 1, 1)))
        self.assertEqual(net.neighbours(1), [0, 2])
        self.assertEqual(net.neighbours(3), [])
        self.assertEqual(net.weight(0, 1), 3)
        self.assertIsNone(net.weight(0, 3))
        ties.clear()
        self.assertEqual(net.without(("house", 2)).ties, ((0, 1, 3, 4),))

    def test_nets_do_not_share_anything(self):
        first, second = Net(3, [(0, 1, 1, 1)]), Net(3, [(1, 2, 5, 5)])
        self.assertEqual(first.ties, ((0, 1, 1, 1),))
        self.assertEqual(first.neighbours(2), [])
        self.assertEqual(second.neighbours(2), [1])


class NeighboursTest(Case):
    def test_against_the_ties(self):
        for count, ties in SMALL + LARGE:
            net = Net(count, ties)
            weights = weights_of(ties)
            for a in range(count):
                self.assertEqual(self.told_anew(net.neighbours, a), sorted(b for here, b in weights if here == a))

    def test_rising_whatever_the_order_of_ties(self):
        net = Net(12, [(5, 11, 1, 1), (5, 10, 1, 1), (2, 5, 1, 1), (9, 5, 1, 1), (5, 0, 1, 1)])
        self.assertEqual(net.neighbours(5), [0, 2, 9, 10, 11])
        self.assertEqual(net.neighbours(11), [5])
        self.assertEqual(net.neighbours(1), [])

    def test_no_house(self):
        for house in (4, -1, FORTY, -FORTY):
            self.refused(NoHouse, {"house": house}, self.net(LINE).neighbours, house)


class WeightToldTest(Case):
    def test_against_the_ties(self):
        for count, ties in SMALL + LARGE:
            net = Net(count, ties)
            weights = weights_of(ties)
            for a in range(count):
                for b in range(count):
                    self.assertEqual(net.weight(a, b), weights.get((a, b)))

    def test_either_way(self):
        net = self.net(LINE)
        self.assertEqual((net.weight(1, 2), net.weight(2, 1)), (1, 5))

    def test_none(self):
        net = self.net(LINE)
        for a, b in ((0, 0), (3, 3), (0, 2), (3, 0)):
            self.assertIsNone(net.weight(a, b))

    def test_no_house(self):
        net = self.net(LINE)
        self.refused(NoHouse, {"house": 4}, net.weight, 4, 0)
        self.refused(NoHouse, {"house": -1}, net.weight, 0, -1)
        self.refused(NoHouse, {"house": 7}, net.weight, 7, 8)
        self.refused(NoHouse, {"house": 8}, net.weight, 8, 7)
        self.refused(NoHouse, {"house": 4}, net.weight, 4, 4)


class WithoutTest(Case):
    def test_a_tie_from_either_house(self):
        net = self.net(LINE)
        for fall in (("tie", 1, 2), ("tie", 2, 1)):
            left = net.without(fall)
            self.assertIs(type(left), Net)
            self.assertEqual(left.count, 4)
            self.assertEqual(left.ties, ((0, 1, 2, 2), (2, 3, 4, 4)))
            self.assertIsNone(left.weight(1, 2))
            self.assertEqual(left.neighbours(2), [3])

    def test_a_house(self):
        left = self.net(PARTED).without(("house", 2))
        self.assertIs(type(left), Net)
        self.assertEqual(left.count, 7)
        self.assertEqual(left.ties, ((0, 1, 2, 3), (4, 5, 1, 7)))
        self.assertEqual(left.neighbours(2), [])
        self.assertEqual(self.net(PARTED).without(("house", 0)).ties, ((1, 2, 2, 3), (4, 5, 1, 7)))

    def test_a_house_without_ties(self):
        self.assertEqual(self.net(PARTED).without(("house", 3)).ties, self.net(PARTED).ties)

    def test_each_fall_of_many_nets(self):
        for count, ties in SMALL + LARGE:
            net = Net(count, ties)
            for a, b, _, _ in net.ties:
                kept = tuple(tie for tie in net.ties if tie[:2] != (a, b))
                self.assertEqual(net.without(("tie", a, b)).ties, kept)
                self.assertEqual(net.without(("tie", b, a)).ties, kept)
            for e in range(count):
                kept = tuple(tie for tie in net.ties if e not in tie[:2])
                self.assertEqual(net.without(("house", e)).ties, kept)
                self.assertEqual(net.without(("house", e)).count, count)

    def test_the_net_itself_stays(self):
        net = self.net(LINE)
        net.without(("tie", 0, 1))
        net.without(("house", 2)).without(("tie", 1, 0))
        self.assertEqual(net.ties, ((0, 1, 2, 2), (1, 2, 1, 5), (2, 3, 4, 4)))
        self.assertEqual(net.neighbours(1), [0, 2])
        self.assertEqual(net.weight(2, 1), 5)

    def test_the_same_again(self):
        net = self.net(LINE)
        self.assertEqual(net.without(("tie", 0, 1)).ties, net.without(("tie", 0, 1)).ties)

    def test_the_last_tie(self):
        self.assertEqual(Net(2, [(0, 1, 1, 1)]).without(("tie", 1, 0)).ties, ())

    def test_no_house_in_a_fall(self):
        net = self.net(LINE)
        for house in (4, -1, FORTY):
            self.refused(NoHouse, {"house": house}, net.without, ("house", house))
            self.refused(NoHouse, {"house": house}, net.without, ("tie", house, 1))
            self.refused(NoHouse, {"house": house}, net.without, ("tie", 1, house))
        self.refused(NoHouse, {"house": 9}, net.without, ("tie", 9, 8))
        self.refused(NoHouse, {"house": 8}, net.without, ("tie", 8, 9))
        self.refused(NoHouse, {"house": 4}, net.without, ("tie", 4, 4))

    def test_no_tie_in_a_fall(self):
        net = self.net(LINE)
        for a, b in ((0, 2), (2, 0), (3, 0), (1, 1), (0, 0)):
            self.refused(NoTie, {"place": None}, net.without, ("tie", a, b))
        self.refused(NoTie, {"place": None}, net.without(("tie", 0, 1)).without, ("tie", 0, 1))
        self.refused(NoTie, {"place": None}, net.without(("house", 1)).without, ("tie", 1, 2))


if __name__ == "__main__":
    unittest.main()
