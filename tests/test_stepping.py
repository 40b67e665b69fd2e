"""Points 26 to 28, and of point 4 what it says of a weight's steps: steps, how far a weight can go, what is reached."""

import random
import time
import unittest

from helping import (FORTY, LARGE, LINE, PARTED, SMALL, SQUARES, TWELVE_LINE, TWELVE_RING, TWELVE_WHOLE, TWO, TWO_BARE,
                     UNLIKE_RING, Case, all_distances, plain_next, plain_table, ring_between)
from sparenext.changing import change_or_ring
from sparenext.errors import NoCount, NoHouse, NoTie, NoWeight
from sparenext.nets import Net
from sparenext.sending import next_table
from sparenext.stepping import reached_pairs, weight_steps, weight_stretch

NUMBERS = (-1, -2, -12, FORTY, -FORTY)

# To 3 house 0 goes by 1, or round by 2. While 0 still goes by 1, 2 goes by 0, too, as long as that is short.
ROUND = (4, [(0, 1, 1, 1), (1, 3, 1, 1), (0, 2, 1, 1), (2, 3, 10, 10)])


def with_weight(ties, a, b, weight):
    """Tells the ties with another weight from a to b, without the program."""
    told = []
    for tie in ties:
        if tie[:2] == (a, b):
            tie = (a, b, weight, tie[3])
        elif tie[:2] == (b, a):
            tie = (b, a, tie[2], weight)
        told.append(tie)
    return told


def weight_in(ties, a, b):
    return [there if first == a else back for first, second, there, back in ties if {first, second} == {a, b}][0]


def tables_by_weight(count, ties, a, b, weights, targets):
    """Tells for each weight from a to b the tables to the targets, without the program."""
    return {weight: [plain_table(count, with_weight(ties, a, b, weight), t) for t in targets] for weight in weights}


def are_calm(tables, others):
    return not any(ring_between(old, new) for old, new in zip(tables, others))


def fewest(tables, now, weight):
    """Tells of how many weights the shortest list has to be, by layers of what is reached with so many."""
    reached, many = {now}, 1
    while weight not in reached:
        reached |= {far for far in tables for near in reached if far not in reached
                    and are_calm(tables[near], tables[far])}
        many += 1
    return many


def random_ties(chance, count, most, share):
    ties = [(a, b, chance.randint(1, most), chance.randint(1, most)) for a in range(count) for b in range(a + 1, count)
            if chance.random() < share]
    chance.shuffle(ties)
    return [tie if chance.random() < 0.5 else (tie[1], tie[0], tie[3], tie[2]) for tie in ties]


def asked_of_ties(seed, many):
    """Tells nets with two houses that have a tie, in either order, the same ones each time."""
    chance = random.Random(seed)
    told = []
    while len(told) < many:
        count = chance.randint(2, 6)
        ties = random_ties(chance, count, chance.choice([3, 9, 60]), 0.6)
        if ties:
            a, b = chance.choice(ties)[:2]
            told.append((count, ties) + ((a, b) if chance.random() < 0.5 else (b, a)))
    return told


class WeightStepsTest(Case):
    def check(self, pair, a, b, weight, targets):
        """Looks at an answer without the program; tells of how many weights it is."""
        count, ties = pair
        now = weight_in(ties, a, b)
        told = weight_steps(self.net(pair), a, b, weight, targets)
        self.assertIs(type(told), list)
        self.assertEqual((told[0], told[-1]), (now, weight))
        between = range(min(now, weight), max(now, weight) + 1)
        for step in told:
            self.assertIs(type(step), int)
            self.assertIn(step, between)
        tables = tables_by_weight(count, ties, a, b, between, sorted(set(targets)))
        for near, far in zip(told, told[1:]):
            self.assertTrue(are_calm(tables[near], tables[far]), (pair, a, b, weight, targets, told))
        self.assertEqual(len(told), fewest(tables, now, weight), (pair, a, b, weight, targets, told))
        return len(told)

    def test_weights_to_nine(self):
        chance = random.Random(3)
        for count, ties, a, b in asked_of_ties(1, 120):
            near = with_weight(ties, a, b, chance.randint(1, 9))
            targets = chance.sample(range(count), chance.randint(0, count))
            self.check((count, near), a, b, chance.randint(1, 9), targets)
            self.check((count, near), a, b, chance.randint(1, 9), list(range(count)))

    def test_weights_to_sixty(self):
        chance = random.Random(4)
        found = set()
        for count, ties, a, b in asked_of_ties(2, 25):
            now, weight = chance.choice([(1, 60), (60, 1), (chance.randint(1, 60), chance.randint(1, 60))])
            found.add(self.check((count, with_weight(ties, a, b, now)), a, b, weight, list(range(count))))
        self.assertIn(2, found)

    def test_told_by_hand(self):
        net = self.net(ROUND)
        # To 3: to 8 house 2 goes by 0, from 9 on by its own tie; to 10 house 0 goes by 1, from 11 on by 2.
        for weight, middles in ((60, (9, 10)), (11, (9, 10)), (12, (9, 10))):
            told = weight_steps(net, 0, 1, weight, [3])
            self.assertEqual((len(told), told[0], told[-1]), (3, 1, weight))
            self.assertIn(told[1], middles)
        for weight in range(2, 11):
            self.assertEqual(weight_steps(net, 0, 1, weight, [3]), [1, weight])

    def test_down_as_well_as_up(self):
        for now in (11, 12, 60):
            pair = (4, with_weight(ROUND[1], 0, 1, now))
            for weight in range(1, 9):
                told = weight_steps(self.net(pair), 0, 1, weight, [3])
                self.assertEqual((len(told), told[0], told[-1]), (3, now, weight))
                self.assertIn(told[1], (9, 10))
                self.check(pair, 0, 1, weight, [0, 1, 2, 3])
            for weight in (9, 10, 13, 59):
                self.assertEqual(weight_steps(self.net(pair), 0, 1, weight, [3]), [now, weight])

    def test_many_steps(self):
        # Round a ring the houses behind the tie turn back one behind the other.
        ring = self.net(TWELVE_RING)
        told = weight_steps(ring, 0, 1, 60, list(range(12)))
        self.assertEqual(len(told), self.check(TWELVE_RING, 0, 1, 60, list(range(12))))
        self.assertGreater(len(told), 4)
        back = weight_steps(ring, 1, 0, 60, list(range(12)))
        self.assertEqual(len(back), self.check(TWELVE_RING, 1, 0, 60, list(range(12))))
        for targets in ([6], [1], [2, 3]):
            self.check(TWELVE_RING, 0, 1, 30, targets)

    def test_the_weight_of_now(self):
        for pair in (TWO, ROUND, UNLIKE_RING, TWELVE_RING):
            for a, b, there, back in pair[1]:
                for targets in ([], [0], list(range(pair[0]))):
                    self.assertEqual(weight_steps(self.net(pair), a, b, there, targets), [there])
                    self.assertEqual(weight_steps(self.net(pair), b, a, back, targets), [back])
        for weight in (1, 60):
            pair = (4, with_weight(ROUND[1], 0, 1, weight))
            self.assertEqual(weight_steps(self.net(pair), 0, 1, weight, [3]), [weight])

    def test_the_tie_from_either_house(self):
        pair = (4, [(1, 0, 7, 2)] + ROUND[1][1:])
        net = self.net(pair)
        self.assertEqual(weight_steps(net, 0, 1, 3, [0, 1, 2, 3])[0], 2)
        self.assertEqual(weight_steps(net, 1, 0, 3, [0, 1, 2, 3])[0], 7)
        for weight in (1, 5, 20, 60):
            self.check(pair, 0, 1, weight, [0, 1, 2, 3])
            self.check(pair, 1, 0, weight, [0, 1, 2, 3])

    def test_targets(self):
        net = self.net(ROUND)
        self.assertEqual(weight_steps(net, 0, 1, 60, []), [1, 60])
        # To 0 nobody goes over the tie from 0.
        self.assertEqual(weight_steps(net, 0, 1, 60, [0]), [1, 60])
        self.assertEqual(weight_steps(net, 0, 1, 60, [0] * 100), [1, 60])
        for targets in ([3], [3, 3], [0, 3], [3, 0, 3, 2], [3] * 100):
            self.assertEqual(self.check(ROUND, 0, 1, 60, targets), 3)
        # To 1 house 2 turns behind 10 and house 0 behind 12, so for both targets one step more is needed.
        for targets in ([1, 3], [3, 1], [3, 0, 3, 2, 1], [3, 1] * 50):
            self.assertEqual(self.check(ROUND, 0, 1, 60, targets), 4)
            told = weight_steps(net, 0, 1, 60, targets)
            self.assertIn(told[1], (9, 10))
            self.assertIn(told[2], (11, 12))
        self.assertEqual(weight_steps(net, 0, 1, 60, [3, 1]), weight_steps(net, 0, 1, 60, [1, 3, 1, 3]))

    def test_more_targets_need_as_many_steps_or_more(self):
        for t in range(4):
            self.assertLessEqual(len(weight_steps(self.net(ROUND), 0, 1, 60, [t])),
                                 len(weight_steps(self.net(ROUND), 0, 1, 60, [0, 1, 2, 3])))

    def test_two_houses(self):
        for weight in (1, 2, 4, 59, 60):
            for targets in ([], [0], [1], [0, 1]):
                self.assertEqual(weight_steps(self.net(TWO), 0, 1, weight, targets), [3, weight])
        self.assertEqual(weight_steps(self.net(TWO), 1, 0, 60, [0, 1]), [5, 60])

    def test_steps_of_one_let_no_ring_arise(self):
        for count, ties, a, b in asked_of_ties(5, 30):
            for weight in range(1, 30):
                for t in range(count):
                    old = plain_table(count, with_weight(ties, a, b, weight), t)
                    new = plain_table(count, with_weight(ties, a, b, weight + 1), t)
                    self.assertFalse(ring_between(old, new))

    def test_no_ring_by_the_program_either(self):
        for pair in (ROUND, TWELVE_RING):
            told = weight_steps(self.net(pair), 0, 1, 60, [3, 2])
            for near, far in zip(told, told[1:]):
                one, other = [Net(pair[0], with_weight(pair[1], 0, 1, step)) for step in (near, far)]
                for t in (2, 3):
                    self.assertEqual(change_or_ring(next_table(one, t), next_table(other, t))[0], "falls")

    def test_answers_come_quickly(self):
        chance = random.Random(6)
        begun = time.monotonic()
        for _ in range(40):
            ties = [(0, 1, 1, 1)] + [tie for tie in random_ties(chance, 6, 60, 0.8) if set(tie[:2]) != {0, 1}]
            weight_steps(Net(6, ties), 0, 1, 60, list(range(6)))
        weight_steps(Net(6, TWELVE_RING[1][:5] + [(5, 0, 9, 9)]), 0, 1, 60, list(range(6)))
        self.assertLess(time.monotonic() - begun, 30)

    def test_lists_are_new(self):
        for weight in (1, 2, 60):
            for targets in ([], [3], [0, 1, 2, 3]):
                self.told_anew(weight_steps, self.net(ROUND), 0, 1, weight, targets)
        targets = [3]
        net = self.net(ROUND)
        told = weight_steps(net, 0, 1, 60, targets)
        kept = list(told)
        targets.append(0)
        targets.clear()
        self.assertEqual(told, kept)
        self.assertEqual(weight_steps(net, 0, 1, 60, [3]), kept)
        self.assertEqual(net.ties, self.net(ROUND).ties)


class WeightStretchTest(Case):
    def everything(self, pair, a, b, weight):
        count, ties = pair
        net = Net(count, with_weight(ties, a, b, weight))
        return [next_table(net, t) for t in range(count)]

    def check(self, pair, a, b):
        """Looks at an answer by trying all weights to one that no way can do with."""
        count, ties = pair
        now = weight_in(ties, a, b)
        beyond = 2 + sum(there + back for _, _, there, back in ties)
        kept = [plain_table(count, ties, t) for t in range(count)]
        alike = {weight: tables == kept for weight, tables in
                 tables_by_weight(count, ties, a, b, range(1, beyond + 1), range(count)).items()}
        low = high = now
        while low > 1 and alike[low - 1]:
            low -= 1
        while high < beyond and alike[high + 1]:
            high += 1
        told = weight_stretch(self.net(pair), a, b)
        self.assertIs(type(told), tuple)
        self.assertEqual(told, (low, None if high == beyond else high))
        return told

    def test_small_weights(self):
        kinds = set()
        for count, ties, a, b in asked_of_ties(7, 150):
            if max(max(tie[2:]) for tie in ties) <= 9:
                low, high = self.check((count, ties), a, b)
                kinds.add((low == 1, high is None))
        self.assertEqual(len(kinds), 4)

    def test_weights_to_sixty(self):
        for count, ties, a, b in asked_of_ties(8, 200):
            net = Net(count, ties)
            low, high = weight_stretch(net, a, b)
            kept = self.everything((count, ties), a, b, weight_in(ties, a, b))
            self.assertLessEqual(low, weight_in(ties, a, b))
            for weight in range(low, 1000 if high is None else high + 1, 1 if high is not None else 37):
                self.assertEqual(self.everything((count, ties), a, b, weight), kept)
            if low > 1:
                self.assertNotEqual(self.everything((count, ties), a, b, low - 1), kept)
            if high is not None:
                self.assertGreaterEqual(high, weight_in(ties, a, b))
                self.assertNotEqual(self.everything((count, ties), a, b, high + 1), kept)

    def test_told_by_hand(self):
        # To 3 house 2 turns behind 8 and house 0 behind 10; to 1 house 2 turns behind 10, since 0 is less than 3, and
        # house 0 behind 12, since 1 is less than 2.
        for now, wanted in ((1, (1, 8)), (8, (1, 8)), (9, (9, 10)), (10, (9, 10)), (11, (11, 12)), (12, (11, 12)),
                            (13, (13, None)), (60, (13, None))):
            pair = (4, with_weight(ROUND[1], 0, 1, now))
            self.assertEqual(weight_stretch(self.net(pair), 0, 1), wanted)
            self.assertEqual(self.check(pair, 0, 1), wanted)

    def test_a_tie_that_always_carries(self):
        self.assertEqual(weight_stretch(self.net(TWO), 0, 1), (1, None))
        self.assertEqual(weight_stretch(self.net(TWO), 1, 0), (1, None))
        for a, b, _, _ in LINE[1]:
            self.assertEqual(weight_stretch(self.net(LINE), a, b), (1, None))
            self.assertEqual(weight_stretch(self.net(LINE), b, a), (1, None))
        self.assertEqual(weight_stretch(self.net(PARTED), 5, 4), (1, None))
        # From 4 on house 0 reaches 1 by 2 in a triangle, but a tail hangs on its own tie whatever that weighs.
        net = Net(4, [(0, 1, 1, 1), (1, 2, 2, 2), (0, 2, 2, 2), (2, 3, 60, 60)])
        self.assertEqual(weight_stretch(net, 2, 3), (1, None))
        self.assertEqual(weight_stretch(net, 0, 1), (1, 4))

    def test_a_tie_over_which_nobody_sends(self):
        net = Net(3, [(0, 1, 9, 9), (1, 2, 1, 1), (0, 2, 1, 1)])
        # From 0 to 1 there are 2 by 2; at 2 house 1 is the lesser one, and the tie carries again.
        self.assertEqual(weight_stretch(net, 0, 1), (3, None))
        self.assertEqual(weight_stretch(net, 1, 0), (3, None))
        self.assertEqual(self.check((3, list(net.ties)), 0, 1), (3, None))

    def test_several_next_houses(self):
        # To 3 by 1 and by 2 alike, so 1 is the next house; one more from 0 to 1 and it is 2.
        pair = (4, [(0, 1, 5, 5), (0, 2, 5, 5), (1, 3, 5, 5), (2, 3, 5, 5)])
        self.assertEqual(self.check(pair, 0, 1), (1, 5))
        # By 2 it is the other one already from one less on; from 1 to 2 by 0 and by 3 alike, so 0 till one more.
        self.assertEqual(self.check(pair, 0, 2), (5, 5))
        self.assertEqual(self.check(pair, 1, 3), (5, 5))
        self.assertEqual(self.check(pair, 3, 1), (5, 5))
        # At 15 from 3 to 2 round by 1 is as near, and 1 the lesser one.
        self.assertEqual(self.check(pair, 3, 2), (5, 14))

    def test_twelve_houses(self):
        for pair in (TWELVE_RING, TWELVE_WHOLE):
            for a, b in ((0, 1), (1, 0), (11, 0), (0, 11)):
                low, high = weight_stretch(self.net(pair), a, b)
                now = weight_in(pair[1], a, b)
                kept = self.everything(pair, a, b, now)
                for weight in range(max(1, low - 1), 40):
                    good = low <= weight and (high is None or weight <= high)
                    self.assertEqual(self.everything(pair, a, b, weight) == kept, good)

    def test_the_net_stays(self):
        net = self.net(ROUND)
        for _ in range(2):
            self.assertEqual(weight_stretch(net, 0, 1), (1, 8))
        self.assertEqual((net.count, net.ties, net.weight(0, 1)), (4, self.net(ROUND).ties, 1))


class ReachedPairsTest(Case):
    def check(self, one, other):
        count, ties = one
        wanted = []
        old, new = all_distances(count, ties), all_distances(count, other[1])
        for t in range(count):
            for a in range(count):
                before = plain_next(count, ties, old, a, t), old[a, t]
                if before != (plain_next(count, other[1], new, a, t), new[a, t]):
                    wanted.append((t, a))
        told = reached_pairs(self.net(one), self.net(other))
        self.assertEqual(told, wanted)
        self.assertEqual(reached_pairs(self.net(other), self.net(one)), wanted)
        self.assertTrue(all(type(pair) is tuple for pair in told))
        return told

    def test_any_two_nets(self):
        by_count = {}
        for count, ties in SMALL + LARGE:
            by_count.setdefault(count, []).append((count, ties))
        for pairs in by_count.values():
            for one, other in zip(pairs, pairs[1:] + pairs[:1]):
                self.check(one, other)

    def test_the_same_net_twice(self):
        for pair in SMALL + LARGE:
            self.assertEqual(reached_pairs(self.net(pair), self.net(pair)), [])

    def test_ties_told_in_another_order(self):
        for count, ties in (SQUARES, UNLIKE_RING, PARTED, TWELVE_WHOLE):
            turned = [(b, a, back, there) for a, b, there, back in reversed(ties)]
            self.assertEqual(reached_pairs(Net(count, ties), Net(count, turned)), [])

    def test_another_weight(self):
        for count, ties, a, b in asked_of_ties(9, 60):
            for weight in (1, 2, 8, 60):
                self.check((count, ties), (count, with_weight(ties, a, b, weight)))

    def test_a_tie_left_out(self):
        for count, ties in SMALL:
            for at in range(len(ties)):
                self.check((count, ties), (count, ties[:at] + ties[at + 1:]))

    def test_told_by_hand(self):
        net = self.net(LINE)
        left = net.without(("tie", 1, 2))
        lost = [(0, 2), (0, 3), (1, 2), (1, 3), (2, 0), (2, 1), (3, 0), (3, 1)]
        self.assertEqual(reached_pairs(net, left), lost)
        self.assertEqual(reached_pairs(left, net), lost)
        # A distance may be unlike where the next house is not, and the other way about.
        self.assertEqual(reached_pairs(Net(2, [(0, 1, 3, 5)]), Net(2, [(0, 1, 3, 6)])), [(0, 1)])
        square = [(0, 2, 1, 1), (1, 3, 1, 1), (2, 3, 1, 1)]
        self.assertEqual(reached_pairs(Net(4, square + [(0, 1, 1, 9)]), Net(4, square + [(0, 1, 2, 9)])),
                         [(1, 0), (1, 2), (3, 0)])
        self.assertEqual(reached_pairs(self.net(TWO), self.net(TWO_BARE)), [(0, 1), (1, 0)])

    def test_lists_are_new(self):
        for one, other in ((TWO, TWO_BARE), (LINE, UNLIKE_RING), (TWELVE_LINE, TWELVE_RING), (LINE, LINE)):
            self.told_anew(reached_pairs, self.net(one), self.net(other))


class RefusedTest(Case):
    def test_numbers_that_are_no_houses(self):
        for pair in (TWO, TWO_BARE, ROUND, TWELVE_RING):
            net = self.net(pair)
            for house in (net.count,) + NUMBERS:
                field = {"house": house}
                for a, b in ((house, 0), (0, house), (house, -7), (house, house)):
                    self.refused(NoHouse, field, weight_stretch, net, a, b)
                    for weight in (1, 0, 61):
                        self.refused(NoHouse, field, weight_steps, net, a, b, weight, [0, -7])
                for targets in ([house], [0, 1, house, -7], [0] * 99 + [house]):
                    # Of both houses and of all targets the first; ahead of a tie and of a weight that is none.
                    for a, b in ((0, 1), (0, 0)):
                        for weight in (1, 0, 61, -FORTY):
                            self.refused(NoHouse, field, weight_steps, net, a, b, weight, targets)

    def test_two_houses_without_a_tie(self):
        for pair, a, b in ((TWO_BARE, 0, 1), (TWO, 0, 0), (ROUND, 0, 3), (ROUND, 3, 0), (PARTED, 3, 6)):
            net = self.net(pair)
            self.refused(NoTie, {"place": None}, weight_stretch, net, a, b)
            for weight in (1, 60, 0, 61, -FORTY, FORTY):
                self.refused(NoTie, {"place": None}, weight_steps, net, a, b, weight, [0, 1])
                self.refused(NoTie, {"place": None}, weight_steps, net, a, b, weight, [])

    def test_weights_below_1_and_above_60(self):
        for weight in (0, -1, -60, 61, 62, 100, FORTY, -FORTY):
            for pair in (TWO, ROUND, TWELVE_RING):
                for targets in ([], [0], [0, 1]):
                    self.refused(NoWeight, {"place": None}, weight_steps, self.net(pair), 0, 1, weight, targets)
                    self.refused(NoWeight, {"place": None}, weight_steps, self.net(pair), 1, 0, weight, targets)
        for weight in (1, 60):
            self.assertEqual(weight_steps(self.net(TWO), 0, 1, weight, [0, 1])[-1], weight)

    def test_unlike_counts(self):
        for one, other in ((TWO, LINE), (LINE, TWO), (PARTED, SQUARES), (TWELVE_RING, TWO_BARE),
                           (TWO_BARE, TWELVE_LINE)):
            self.refused(NoCount, {}, reached_pairs, self.net(one), self.net(other))


if __name__ == "__main__":
    unittest.main()
