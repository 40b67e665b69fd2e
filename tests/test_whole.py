"""Points 1 to 6 over the whole program: what each question keeps to, and what all of them promise together."""

import copy
import itertools
import random
import time
import unittest

from helping import (FORTY, HUGE, LARGE, LINE, PARTED, SMALL, SQUARES, TWELVE_RING, TWELVE_WHOLE, TWO, TWO_BARE,
                     UNLIKE_RING, Case, all_distances, all_falls, goes_in_a_ring, least_ways, lists_in, random_nets,
                     ring_between, ties_left, weights_of)
from sparenext.changing import are_change_numbers, change_or_ring, change_order, is_change_ring, order_holds
from sparenext.desk import Desk
from sparenext.double import doubled
from sparenext.errors import NoHouse, NoNeed, NoTie, SpareError
from sparenext.falls import fallen_table, lost_houses, walked_all
from sparenext.fewest import fewest_spares, tie_servers, tie_targets
from sparenext.gaining import bare_pairs, best_tie
from sparenext.handing import far_houses, handed_over, handed_way, near_houses
from sparenext.learning import learning_or_ring, learning_order
from sparenext.loads import heaviest, loads
from sparenext.nets import Net
from sparenext.sending import next_table, ring_or_numbers, sent_on
from sparenext.spares import spare_of, spares_of, spares_told
from sparenext.stepping import reached_pairs, weight_steps, weight_stretch
from sparenext.texts import net_text, read_net, table_text
from sparenext.trees import trees_apart, two_trees
from sparenext.ways import distance, is_way, least_way, next_house, next_houses, way_count

NUMBERS = (-1, -2, -12, FORTY, -FORTY)
FALLEN_WORDS = ("tie", "house")
APART_WORDS = ("ties", "houses")

# Each question about a net in which houses are handed in, by themselves or in a fall: the places of arguments behind
# the net, each a house (h), a fall (f) or something else, that is wrong wherever the question has a refusal for it.
HOUSES = ((distance, "hh"), (way_count, "hh"), (next_houses, "hh"), (next_house, "hh"), (least_way, "hh"),
          (next_table, "h"), (spares_of, "hh", "other"), (spare_of, "hh", "other"), (spares_told, "h", "other"),
          (fallen_table, "hf"), (walked_all, "hf"), (lost_houses, "hf"), (tie_targets, "hh"), (tie_servers, "hh"),
          (fewest_spares, "hh"), (near_houses, "hh"), (far_houses, "hh"), (handed_over, "hh"), (handed_way, "hh"),
          (trees_apart, "h", "other", [], []), (two_trees, "h", "other"), (weight_stretch, "hh"),
          (learning_order, "hf"), (learning_or_ring, "hf"), (loads, "f"))

# Questions of two houses, from the seventh on only of such that have a tie; and questions of a target and a fall.
OF_HOUSES = (distance, way_count, next_houses, next_house, least_way, Net.weight, tie_targets, tie_servers,
             fewest_spares, near_houses, far_houses, handed_over, handed_way, weight_stretch)
OF_FALLS = (fallen_table, walked_all, lost_houses, learning_order, learning_or_ring)


def all_questions(net):
    """Tells questions of every kind about a net, each a call and what is handed in behind the net."""
    told = [(net_text,), (read_net_of,), (loads, None), (is_way, list(range(net.count)))]
    for word in FALLEN_WORDS:
        told += [(bare_pairs, word), (heaviest, word), (best_tie, 2, word)]
    for t in range(net.count):
        told += [(call, t) for call in (next_table, Net.neighbours)]
        told += [(spares_told, t, word) for word in FALLEN_WORDS] + [(two_trees, t, word) for word in APART_WORDS]
        for a in range(net.count):
            told += [(call, a, t) for call in OF_HOUSES]
            told += [(call, a, t, word) for call in (spares_of, spare_of) for word in FALLEN_WORDS]
            told += [(weight_steps, a, t, weight, list(range(net.count))) for weight in (1, 4)]
        for fall in all_falls(net.count, list(net.ties)):
            told += [(call, t, fall) for call in OF_FALLS]
            told.append((loads, fall))
    return told


def read_net_of(net):
    return read_net(net_text(net)).ties


def answer(net, question):
    """Tells what a question is answered, or how it is refused."""
    try:
        return question[0](net, *question[1:])
    except SpareError as error:
        return (type(error), vars(error))


def turned(count, ties):
    """Tells the same net, made of its ties in another order, each from its other house."""
    return Net(count, [(b, a, back, there) for a, b, there, back in reversed(ties)])


def like(count, ties):
    return count, [(a, b, there, there) for a, b, there, _ in ties]


class AskingTest(Case):
    NETS = [TWO, TWO_BARE, LINE, UNLIKE_RING, SQUARES] + random_nets(41, 4, 5)

    def test_who_asks_the_same_again_is_told_the_same(self):
        for pair in self.NETS:
            net = self.net(pair)
            questions = all_questions(net)
            first = [copy.deepcopy(answer(net, question)) for question in questions]
            order = list(range(len(questions)))
            random.Random(1).shuffle(order)
            for at in order:
                told = answer(net, questions[at])
                self.assertEqual(told, first[at])
                for row in lists_in(told):
                    row.append("more")
                    row.clear()
            self.assertEqual([answer(net, question) for question in questions], first)
            self.assertEqual((net.count, net.ties), (pair[0], self.net(pair).ties))

    def test_the_same_net_made_otherwise(self):
        for count, ties in self.NETS:
            net, other = Net(count, ties), turned(count, ties)
            self.assertEqual(net.ties, other.ties)
            self.assertEqual(reached_pairs(net, other), [])
            for question in all_questions(net):
                self.assertEqual(answer(net, question), answer(other, question))

    def test_what_is_handed_in_stays(self):
        for pair in self.NETS:
            net = self.net(pair)
            for question in all_questions(net):
                handed = copy.deepcopy(question[1:])
                answer(net, question)
                self.assertEqual(question[1:], handed)
            ties = list(pair[1])
            made = Net(pair[0], ties)
            self.assertEqual(ties, pair[1])
            kept = made.ties
            ties.append((0, 1, 9, 9))
            ties.clear()
            self.assertEqual((made.ties, made.neighbours(0)), (kept, net.neighbours(0)))

    def test_a_net_without_a_fall_is_another_net(self):
        for pair in self.NETS:
            net = self.net(pair)
            for fall in all_falls(*pair):
                left = net.without(fall)
                self.assertEqual(left.ties, Net(pair[0], ties_left(list(pair[1]), fall)).ties)
                self.assertEqual(net.ties, self.net(pair).ties)


class HousesTest(Case):
    def test_the_first_number_that_is_no_house_ahead_of_all_else(self):
        for pair in (TWO, TWO_BARE, LINE, PARTED, TWELVE_RING):
            net = self.net(pair)
            for wrong in (net.count,) + NUMBERS:
                for row in HOUSES:
                    call, kinds, more = row[0], row[1], list(row[2:])
                    for at, kind in enumerate(kinds):
                        # What stands behind the wrong number is wrong, too.
                        rest = [("house", -77) if later == "f" else -77 for later in kinds[at + 1:]]
                        ways = [wrong] if kind == "h" else [("house", wrong), ("tie", wrong, -77), ("tie", 0, wrong)]
                        for handed in ways:
                            self.refused(NoHouse, {"house": wrong}, call, net, *[0] * at, handed, *rest, *more)

    def test_two_houses_without_a_tie(self):
        for pair, a, b in ((TWO_BARE, 0, 1), (LINE, 3, 0), (PARTED, 3, 6), (TWO, 1, 1)):
            net = self.net(pair)
            for call in OF_HOUSES[6:]:
                self.refused(NoTie, {"place": None}, call, net, a, b)
            for call in OF_FALLS:
                self.refused(NoTie, {"place": None}, call, net, 0, ("tie", a, b))
            self.refused(NoTie, {"place": None}, loads, net, ("tie", a, b))
            self.refused(NoTie, {"place": None}, net.without, ("tie", a, b))


class BoundsTest(Case):
    def test_weights_of_forty_figures(self):
        chance = random.Random(9)
        pairs = [(a, b) for a in range(6) for b in range(a + 1, 6) if (a + b) % 5]
        ties = [(a, b, FORTY - chance.randint(0, 9), FORTY - chance.randint(0, 9)) for a, b in pairs]
        net = Net(6, ties)
        for t in range(6):
            table = next_table(net, t)
            self.assertIs(ring_or_numbers(table)[0], True)
            for a in range(6):
                least, ways = least_ways(ties, a, t)
                self.assertEqual((distance(net, a, t), way_count(net, a, t)), (least, len(ways)))
            for fall in all_falls(6, ties):
                if fall != ("house", t):
                    self.assertFalse(goes_in_a_ring(fallen_table(net, t, fall)))
        for word in FALLEN_WORDS:
            self.assertEqual(best_tie(net, FORTY, word)[1], len(bare_pairs(Net(6, ties + [
                best_tie(net, FORTY, word)[0] + (FORTY, FORTY)]), word)))
        self.assertEqual(read_net(net_text(net)).ties, net.ties)
        # What was told may be handed in again, whatever its figures.
        far = distance(Net(3, [(0, 1, FORTY, FORTY), (1, 2, FORTY, FORTY)]), 0, 2)
        self.assertEqual(distance(Net(2, [(0, 1, far, 1)]), 0, 1), 2 * FORTY)

    def test_lists_of_a_hundred_things(self):
        net = self.net(TWELVE_RING)
        self.assertIs(is_way(net, [0, 1] * 50), False)
        self.assertEqual(weight_steps(net, 0, 1, 2, [3] * 100), [1, 2])
        one, other = two_trees(net, 0, "houses")[1:]
        self.assertEqual(doubled(net, 0, one, other, 6, [("tie", 0, 1)] * 100)[0], "comes")
        self.assertIs(order_holds([None, 0], [None, 0], [1] * 100), False)
        self.assertIs(is_change_ring([1, 0], [1, 0], [0, 1] * 50), False)
        self.assertIs(are_change_numbers([1, None], [1, None], [1, 0] * 50), False)

    def test_no_question_takes_long(self):
        begun = time.monotonic()
        net = self.net(TWELVE_WHOLE)
        for question in all_questions(net)[::9]:
            answer(net, question)
        for word in FALLEN_WORDS:
            heaviest(net, word)
            best_tie(Net(12, []), 1, word)
        self.assertLess(time.monotonic() - begun, 60)


class PromiseTest(Case):
    """Point 4, sentence by sentence, on nets that no other test has."""

    NETS = random_nets(77, 25, 6) + random_nets(78, 3, 12)

    def test_a_fall_never_sends_in_a_ring(self):
        for count, ties in self.NETS:
            net, weights = Net(count, ties), weights_of(ties)
            for t, fall in itertools.product(range(count), all_falls(count, ties)):
                if fall == ("house", t):
                    continue
                table = fallen_table(net, t, fall)
                for start in range(count):
                    text, houses = sent_on(table, start, t)
                    self.assertNotEqual(text, "ring")
                    self.assertLess(len(houses), 2 * count)
                    last = houses[-1]
                    if text == "stops" and next_house(net, last, t) is not None and fall != ("house", last):
                        self.assertIs(spare_of(net, last, t, fall[0])[0], False)
                for a in range(count):
                    self.look_at_rows(net, weights, a, t, fall[0])

    def look_at_rows(self, net, weights, a, t, word):
        """Looks that, where no spare is told, a least way of each neighbour is shown that comes back."""
        try:
            found, rows = spare_of(net, a, t, word)
        except NoNeed:
            return
        if not found:
            e = next_house(net, a, t)
            self.assertEqual([n for n, _ in rows], [n for n in net.neighbours(a) if n != e])
            for n, way in rows:
                self.assertEqual((way[0], way[-1]), (n, t))
                self.assertEqual(sum(weights[step] for step in zip(way, way[1:])), distance(net, n, t))
                self.assertTrue(a in way or (word == "house" and e in way))

    def test_fewest_spares_serve_all_targets_that_can_be_served(self):
        for count, ties in self.NETS[:12]:
            net = Net(count, ties)
            for a, e in weights_of(ties):
                some, rows = fewest_spares(net, a, e)
                for t, n in rows:
                    spares = spares_of(net, a, t, "tie")
                    self.assertEqual(n, min([n for n in some if n in spares], default=None))
                    self.assertEqual(n is None, not spares)
                if tie_servers(net, a, e) and any(n is not None for _, n in rows):
                    self.assertEqual(len(some), 1)

    def test_like_weights_are_repaired_by_handing_over(self):
        for count, ties in [like(*pair) for pair in self.NETS]:
            net = Net(count, ties)
            for a, e in weights_of(ties):
                told, walk = handed_over(net, a, e), handed_way(net, a, e)
                joined = all_distances(count, ties_left(ties, ("tie", a, e)))[a, e] is not None
                self.assertEqual(told[0] == "over", joined)
                if joined:
                    self.assertIn(len(told), (2, 3))
                    self.assertEqual((walk[0], walk[-1]), (a, e))
                    for step in zip(walk, walk[1:]):
                        self.assertIn(step, weights_of(ties))
                        self.assertNotIn(step, ((a, e), (e, a)))

    def test_two_trees_or_what_bars(self):
        for count, ties in self.NETS:
            net = Net(count, ties)
            for t, word in itertools.product(range(count), APART_WORDS):
                told = two_trees(net, t, word)
                if told[0] == "trees":
                    self.assertIs(trees_apart(net, t, word, told[1], told[2]), True)
                    for fall in all_falls(count, ties):
                        for start in range(count):
                            # By trees apart by ties a fallen house may bar both ways.
                            if (word == "houses" or fall[0] == "tie") and fall not in (("house", start), ("house", t)):
                                self.assertEqual(doubled(net, t, told[1], told[2], start, [fall])[0], "comes")
                elif told[0] == "bar":
                    bar = ("house", told[1]) if isinstance(told[1], int) else ("tie",) + told[1]
                    left = all_distances(count, ties_left(ties, bar))
                    for house in told[2]:
                        self.assertIsNone(left[house, t])
                        self.assertIsNotNone(distance(net, house, t))

    def test_tables_that_change(self):
        for one, other in zip(self.NETS, self.NETS[1:]):
            if one[0] == other[0]:
                for t in range(one[0]):
                    old, new = next_table(self.net(one), t), next_table(self.net(other), t)
                    word, row = change_or_ring(old, new)
                    self.assertEqual(word == "ring", ring_between(old, new))
                    judge = is_change_ring if word == "ring" else are_change_numbers
                    self.assertIs(judge(old, new, row), True)
                    self.assertIs(order_holds(old, new, change_order(self.net(one), self.net(other), t)), True)
        for count, ties in self.NETS[:12]:
            for fall in all_falls(count, ties):
                for t in range(count):
                    if fall != ("house", t):
                        net = Net(count, ties)
                        old, new = fallen_table(net, t, fall), next_table(net.without(fall), t)
                        self.assertIs(order_holds(old, new, learning_order(net, t, fall)), True)
                        word, row = learning_or_ring(net, t, fall)
                        judge = is_change_ring if word == "ring" else are_change_numbers
                        self.assertIs(judge(old, new, row), True)

    def test_steps_of_a_weight(self):
        for count, ties in self.NETS[:12]:
            for a, b in weights_of(ties):
                steps = weight_steps(Net(count, ties), a, b, 12, list(range(count)))
                rest = [tie for tie in ties if set(tie[:2]) != {a, b}]
                nets = [Net(count, rest + [(a, b, step, weights_of(ties)[b, a])]) for step in steps]
                for near, far in zip(nets, nets[1:]):
                    for t in range(count):
                        self.assertEqual(change_or_ring(next_table(near, t), next_table(far, t))[0], "falls")

    def test_a_desk_keeps_nets(self):
        desk = Desk()
        for at, (count, ties) in enumerate(self.NETS[:20]):
            net = Net(count, ties)
            desk.tell(f"net {'abcdefghijklmnopqrst'[at]} {net_text(net)}")
        for at, (count, ties) in enumerate(self.NETS[:20]):
            name = "abcdefghijklmnopqrst"[at]
            self.assertEqual(desk.tell(f"show {name}"), net_text(Net(count, ties)))
            for t in range(count):
                self.assertEqual(desk.tell(f"table {name} {t}"), table_text(next_table(Net(count, ties), t)))
        self.assertEqual(desk.tell("all"), " ".join("abcdefghijklmnopqrst"))


class LargeTest(Case):
    def test_large_nets_never_ring(self):
        for count, ties in LARGE[-4:]:
            net = Net(count, ties)
            for t, fall in itertools.product(range(0, count, 3), all_falls(count, ties)):
                if fall != ("house", t):
                    self.assertFalse(goes_in_a_ring(fallen_table(net, t, fall)))

    def test_small_nets_of_all_sorts_are_asked_everything(self):
        # Whatever is asked of houses and ties that are there, nothing but a listed refusal is raised.
        for pair in SMALL[:20]:
            net = self.net(pair)
            if pair == HUGE:
                # Nothing is promised of steps from a weight above 60.
                continue
            for question in all_questions(net)[::5]:
                answer(net, question)


if __name__ == "__main__":
    unittest.main()
