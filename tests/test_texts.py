"""Point 31: how nets and tables are written, and how a net is read."""

import random
import unittest

from helping import (FORTY, HUGE, LARGE, LINE, PARTED, SMALL, SQUARES, TWELVE_LINE, TWELVE_RING, TWELVE_WHOLE, TWO,
                     TWO_BARE, UNLIKE_RING, Case)
from sparenext.errors import NoCount, NoHouse, NoText, NoTie, NoWeight
from sparenext.nets import Net
from sparenext.sending import next_table
from sparenext.texts import net_text, read_net, table_text

NUMBERS = (-1, -2, -12, FORTY, -FORTY)

NO_NUMBERS = ("", "+1", "-1", "01", "00", "007", "a", "x1", "1x", "1.0", "1_0", "0x1", "1e1", "1,0", "#", "~", "'1'",
              "None", "True", "\u0661", "\u00b2", "\uff11", "1\u0662", "1\t", "1\n", "\n1", "1\u00a0")

NO_TIES = ("0", "3", "-", ":", "/", "-:/", "0-1", "0-1:2", "0-1:2/", "0-1:/2", "-1:2/2", "0-:2/2", "0-1/2:2", "0-1/2/2",
           "0:1:2/2", "0:1-2/2", "0-1-2/2", "0--1:2/2", "0-1::2/2", "0-1:2//2", "-0-1:2/2", "0-1-:2/2", "0-1:2/2/",
           "0-1:2/2/2", "0-1-2:2/2", "0-1:2:2/2", "0-1:2/2:2", "0-1:2-2/2", "+0-1:2/2", "0-+1:2/2", "0-1:+2/2",
           "0-1:-2/2", "0-1:2/-2", "00-1:2/2", "0-01:2/2", "0-1:02/2", "0-1:2/02", "0-1:00/2", "a-1:2/2", "0-b:2/2",
           "0-1:c/2", "0-1:2/d", "0-1:2/2.", "0_0-1:2/2", "0-1:2.0/2", "(0-1:2/2)", "0\u20131:2/2", "0-1:2/\u0662",
           "0-1:\u00b2/2", "0-1:2/2\n", "0-1\t:2/2", "/0-1:2", "0/1:2-2", "x", "0-1:2/2,")


def plain_text(count, ties):
    """Tells the text of a net, without the program."""
    rows = sorted((a, b, there, back) if a < b else (b, a, back, there) for a, b, there, back in ties)
    return "".join([str(count)] + [" " + str(a) + "-" + str(b) + ":" + str(there) + "/" + str(back)
                                   for a, b, there, back in rows])


class NetTextTest(Case):
    def test_any_net(self):
        for count, ties in SMALL + LARGE:
            told = net_text(Net(count, ties))
            self.assertIs(type(told), str)
            self.assertEqual(told, plain_text(count, ties))

    def test_told_by_hand(self):
        self.assertEqual(net_text(Net(3, [(2, 1, 5, 1), (0, 1, 2, 2)])), "3 0-1:2/2 1-2:1/5")
        self.assertEqual(net_text(self.net(TWO_BARE)), "2")
        self.assertEqual(net_text(Net(12, [])), "12")
        self.assertEqual(net_text(self.net(TWO)), "2 0-1:3/5")
        self.assertEqual(net_text(Net(12, [(11, 0, 1, 10), (10, 2, 30, 4)])), "12 0-11:10/1 2-10:4/30")
        nines = "9" * 40
        self.assertEqual(net_text(self.net(HUGE)),
                         f"3 0-1:{nines}/1 0-2:{nines}/{'9' * 39}8 1-2:{nines}/{nines}")

    def test_ties_rise_by_numbers(self):
        self.assertEqual(net_text(Net(12, [(1, 10, 1, 1), (1, 2, 1, 1), (0, 11, 1, 1), (2, 3, 1, 1), (0, 9, 1, 1)])),
                         "12 0-9:1/1 0-11:1/1 1-2:1/1 1-10:1/1 2-3:1/1")

    def test_the_net_stays(self):
        net = self.net(SQUARES)
        self.assertEqual(net_text(net), net_text(net))
        self.assertEqual(net.ties, self.net(SQUARES).ties)


class ReadNetTest(Case):
    def same(self, net, count, ties):
        self.assertIs(type(net), Net)
        self.assertEqual((net.count, net.ties), (count, Net(count, ties).ties))
        for house in net.ties:
            self.assertEqual([type(number) for number in house], [int] * 4)

    def test_what_is_written_is_read_again(self):
        for count, ties in SMALL + LARGE:
            self.same(read_net(net_text(Net(count, ties))), count, ties)

    def test_ties_in_any_order_and_either_house_first(self):
        chance = random.Random(2)
        for count, ties in SMALL + LARGE:
            words = []
            for a, b, there, back in ties:
                tie = (a, b, there, back) if chance.random() < 0.5 else (b, a, back, there)
                words.append("{}-{}:{}/{}".format(*tie))
            chance.shuffle(words)
            self.same(read_net(" ".join([str(count)] + words)), count, ties)

    def test_told_by_hand(self):
        self.same(read_net("3 0-1:2/2 1-2:1/5"), 3, [(0, 1, 2, 2), (1, 2, 1, 5)])
        self.same(read_net("3 2-1:5/1 1-0:2/2"), 3, [(0, 1, 2, 2), (1, 2, 1, 5)])
        self.same(read_net("2"), 2, [])
        self.same(read_net("12"), 12, [])
        self.same(read_net("12 11-10:100/20"), 12, [(10, 11, 20, 100)])
        self.same(read_net(f"2 0-1:{FORTY}/{FORTY}"), 2, [(0, 1, FORTY, FORTY)])
        self.assertEqual(net_text(read_net("3 2-1:5/1 1-0:2/2")), "3 0-1:2/2 1-2:1/5")

    def test_two_nets_of_one_text(self):
        one, other = read_net("3 0-1:2/2"), read_net("3 0-1:2/2")
        self.assertIsNot(one, other)
        self.assertEqual(net_text(one), net_text(other))

    def test_no_count(self):
        for count in (0, 1, 13, 100, FORTY):
            for more in ("", " 0-1:2/2", " 0-0:0/0"):
                self.refused(NoCount, {}, read_net, f"{count}{more}")

    def test_no_house(self):
        for house in (3, 12, FORTY):
            self.refused(NoHouse, {"house": house}, read_net, f"3 0-{house}:1/1")
            self.refused(NoHouse, {"house": house}, read_net, f"3 0-0:0/0 1-2:1/1 {house}-0:1/1 99-98:1/1")

    def test_no_tie_places_count_ties(self):
        self.refused(NoTie, {"place": 0}, read_net, "3 0-0:1/1")
        self.refused(NoTie, {"place": 1}, read_net, "3 0-1:0/1 1-0:1/1")
        self.refused(NoTie, {"place": 2}, read_net, "3 0-1:1/1 1-2:1/1 2-1:1/1 0-0:1/1")

    def test_no_weight_places_count_ties(self):
        self.refused(NoWeight, {"place": 0}, read_net, "3 0-1:0/1")
        self.refused(NoWeight, {"place": 0}, read_net, "3 0-1:1/0 1-2:0/0")
        self.refused(NoWeight, {"place": 1}, read_net, "3 0-1:1/1 2-1:1/0")


class NoTextTest(Case):
    def test_a_count_that_is_none(self):
        for word in NO_NUMBERS + ("0-1:2/2", "-", "3-"):
            self.refused(NoText, {"at": 0}, read_net, word)
            self.refused(NoText, {"at": 0}, read_net, word + " 0-1:2/2")
            self.refused(NoText, {"at": 0}, read_net, word + " 0-1:2")

    def test_a_tie_that_is_none(self):
        for word in NO_TIES:
            self.refused(NoText, {"at": 1}, read_net, "3 " + word)
            self.refused(NoText, {"at": 1}, read_net, "3 " + word + " 0-1:2/2")
            self.refused(NoText, {"at": 2}, read_net, "3 0-1:2/2 " + word)
            self.refused(NoText, {"at": 3}, read_net, "3 0-1:2/2 1-2:1/5 " + word + " 0- x " + word)

    def test_numbers_in_a_tie_that_are_none(self):
        for word in NO_NUMBERS:
            for tie in (f"{word}-1:2/2", f"0-{word}:2/2", f"0-1:{word}/2", f"0-1:2/{word}"):
                self.refused(NoText, {"at": 2}, read_net, "3 1-2:1/1 " + tie)

    def test_blanks(self):
        self.refused(NoText, {"at": 0}, read_net, "")
        self.refused(NoText, {"at": 0}, read_net, " ")
        self.refused(NoText, {"at": 0}, read_net, " 3")
        self.refused(NoText, {"at": 0}, read_net, "  3 0-1:2/2")
        self.refused(NoText, {"at": 1}, read_net, "3 ")
        self.refused(NoText, {"at": 1}, read_net, "3  0-1:2/2")
        self.refused(NoText, {"at": 2}, read_net, "3 0-1:2/2 ")
        self.refused(NoText, {"at": 2}, read_net, "3 0-1:2/2  1-2:1/5")
        # A blank within a tie parts it.
        self.refused(NoText, {"at": 1}, read_net, "3 0-1: 2/2")
        self.refused(NoText, {"at": 0}, read_net, "3\n0-1:2/2")
        self.refused(NoText, {"at": 0}, read_net, "3\t0-1:2/2")

    def test_ahead_of_all_that_a_net_refuses(self):
        for text, at in (("1 x", 1), ("13 0-1:2/2 x", 2), ("0 0-0:0/0 0-1", 2), ("3 0-9:1/1 x", 2), ("3 0-0:1/1 -", 2),
                         ("3 0-1:0/1 1-2:1/1 0-1:1/1 x", 4), ("3 0-0:0/0 7-7:0/0 ", 3), (f"{FORTY} 0-1:1/1/1", 1)):
            self.refused(NoText, {"at": at}, read_net, text)

    def test_the_longest_texts(self):
        text = "12" + " 0-1:2/2" * 98
        self.refused(NoTie, {"place": 1}, read_net, text)
        self.refused(NoText, {"at": 99}, read_net, text + " 0-1:2/")
        self.refused(NoText, {"at": 0}, read_net, "x" * 800)


class TableTextTest(Case):
    def test_told_by_hand(self):
        self.assertEqual(table_text([None]), "-")
        self.assertEqual(table_text([0]), "0")
        self.assertEqual(table_text([None, None, None]), "- - -")
        self.assertEqual(table_text([1, 2, None]), "1 2 -")
        self.assertEqual(table_text([None, 0, 0, 1]), "- 0 0 1")
        self.assertEqual(table_text([11, None, 10, 9, 8, 7, 6, 5, 4, 3, 2, 0]), "11 - 10 9 8 7 6 5 4 3 2 0")

    def test_tables_of_nets(self):
        for pair in (TWO, TWO_BARE, LINE, PARTED, UNLIKE_RING, TWELVE_LINE, TWELVE_RING, TWELVE_WHOLE):
            net = self.net(pair)
            for t in range(net.count):
                table = next_table(net, t)
                self.assertEqual(table_text(table), " ".join("-" if e is None else str(e) for e in table))

    def test_the_table_stays(self):
        table = [1, None, 0]
        self.assertEqual(table_text(table), "1 - 0")
        self.assertEqual(table, [1, None, 0])
        table[1] = 2
        self.assertEqual(table_text(table), "1 2 0")

    def test_numbers_that_are_no_houses(self):
        for house in (3, 12) + NUMBERS:
            for table in ([house, None, 0], [None, 0, house], [1, house, -7], [2, house, house]):
                self.refused(NoHouse, {"house": house}, table_text, table)
        self.refused(NoHouse, {"house": 1}, table_text, [1])


if __name__ == "__main__":
    unittest.main()
