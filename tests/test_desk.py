"""Points 32 and 33: the desk, each kind of line with its answer, and what it refuses, in which order."""

import random
import unittest

from helping import (FORTY, LINE, PARTED, SQUARES, TWELVE_LINE, TWELVE_RING, TWELVE_WHOLE, TWO, TWO_BARE, UNLIKE_RING,
                     Case, all_falls, random_nets)
from sparenext.changing import change_order
from sparenext.desk import Desk
from sparenext.errors import (NoCount, NoHouse, NoLine, NoName, NoNeed, NoText, NoTie, NotLike, NoWeight, NoWord,
                              SpareError)
from sparenext.falls import lost_houses
from sparenext.handing import handed_over
from sparenext.nets import Net
from sparenext.sending import next_table
from sparenext.spares import spare_of
from sparenext.texts import net_text, table_text
from sparenext.trees import two_trees
from sparenext.ways import least_way

THREE = "3 0-1:2/2 1-2:1/5"
# With like weights: a square with a tail, as in point 20.
LIKE = "5 0-1:1/1 0-2:2/2 1-3:1/1 2-3:2/2 3-4:1/1"
# Two triangles that share the house 2, and a tail from 4 to 5.
BOWS = "6 0-1:1/1 0-2:1/1 1-2:1/1 2-3:1/1 2-4:1/1 3-4:1/1 4-5:1/1"
NAMES = ("a", "z", "home", "abcdefgh", "zzzzzzzz", "net", "all", "show", "none", "tie", "nobody", "x")
NO_NAMES = ("A", "Home", "abcdefghi", "a1", "1", "a-b", "a_b", "-", "a.", "~", "aB", "abcdefgH", "abcdefghijklmnop",
            "\u00e4", "a\n", "a\t", "\u03b1")
NO_NUMBERS = ("+1", "-1", "01", "00", "a", "1x", "1.0", "1_0", "-", "#", "\u0661", "\u00b2", "1\n")
WORDS = ("tie", "house", "ties", "houses")
HEADS = ("net", "weigh", "fall", "drop", "show", "table", "way", "spare", "lost", "hand", "trees", "order", "all")

# Lines that are answered where THREE stands by the name a and LIKE by b.
GOOD = ("weigh a 0 1 5", "fall c a 0", "fall c a 0 1", "drop a", "show a", "table a 0", "way a 0 1", "spare a 0 2 tie",
        "lost a 0 1", "lost a 0 1 2", "hand b 0 1", "trees a 0 ties", "order a a 0", "all")


def with_nets(**nets):
    """Tells a desk that has these texts by these names."""
    desk = Desk()
    for name, text in nets.items():
        desk.tell(f"net {name} {text}")
    return desk


def listed(houses, otherwise):
    return " ".join(str(house) for house in houses) if houses else otherwise


def kept(desk):
    """Tells all that a desk has."""
    names = desk.tell("all")
    return {name: desk.tell(f"show {name}") for name in names.split(" ")} if names else {}


class DeskCase(Case):
    def told(self, desk, line, wanted):
        before = kept(desk)
        answer = desk.tell(line)
        self.assertIs(type(answer), str)
        self.assertEqual(answer, wanted, line)
        return before

    def asked(self, desk, line, wanted):
        """Looks that a question is answered so, twice, and changes nothing."""
        for _ in range(2):
            self.assertEqual(self.told(desk, line, wanted), kept(desk))

    def refuses(self, desk, kind, fields, line):
        """Looks that a line is refused so, and that the desk has what it had."""
        before = kept(desk)
        self.refused(kind, fields, desk.tell, line)
        self.assertEqual(kept(desk), before)


class NetsTest(DeskCase):
    def test_net_and_show(self):
        desk = Desk()
        for name in NAMES:
            self.told(desk, f"net {name} {THREE}", name)
            self.asked(desk, f"show {name}", THREE)
        self.told(desk, "net a 3 2-1:5/1 1-0:2/2", "a")
        self.asked(desk, "show a", THREE)
        self.told(desk, "net a 12", "a")
        self.asked(desk, "show a", "12")

    def test_any_net(self):
        desk = Desk()
        for count, ties in random_nets(31, 20, 7) + [TWELVE_LINE, TWELVE_RING, TWO_BARE]:
            text = net_text(Net(count, ties))
            self.told(desk, f"net some {text}", "some")
            self.asked(desk, "show some", text)

    def test_a_net_by_a_name_that_stands(self):
        desk = with_nets(home=THREE, away="2")
        self.told(desk, "net home 2 0-1:3/5", "home")
        self.assertEqual(kept(desk), {"home": "2 0-1:3/5", "away": "2"})
        self.told(desk, "net home 2 0-1:3/5", "home")
        self.assertEqual(kept(desk), {"home": "2 0-1:3/5", "away": "2"})

    def test_all(self):
        desk = Desk()
        self.asked(desk, "all", "")
        for name in ("b", "abc", "ab", "a", "c", "bb"):
            desk.tell(f"net {name} 2")
        self.asked(desk, "all", "a ab abc b bb c")
        desk.tell("drop abc")
        self.asked(desk, "all", "a ab b bb c")

    def test_drop(self):
        desk = with_nets(home=THREE, homes=THREE)
        self.told(desk, "drop home", "home")
        self.assertEqual(kept(desk), {"homes": THREE})
        self.refuses(desk, NoName, {"name": "home"}, "drop home")
        self.told(desk, "drop homes", "homes")
        self.asked(desk, "all", "")
        self.told(desk, "net home 2", "home")
        self.assertEqual(kept(desk), {"home": "2"})

    def test_weigh(self):
        desk = with_nets(home=THREE, away=THREE)
        self.told(desk, "weigh home 0 1 7", "home")
        self.asked(desk, "show home", "3 0-1:7/2 1-2:1/5")
        self.told(desk, "weigh home 1 0 9", "home")
        self.asked(desk, "show home", "3 0-1:7/9 1-2:1/5")
        self.told(desk, f"weigh home 2 1 {FORTY}", "home")
        self.asked(desk, "show home", f"3 0-1:7/9 1-2:1/{FORTY}")
        self.told(desk, f"weigh home 2 1 {FORTY}", "home")
        self.asked(desk, "show home", f"3 0-1:7/9 1-2:1/{FORTY}")
        self.told(desk, "weigh home 2 1 1", "home")
        self.asked(desk, "show home", "3 0-1:7/9 1-2:1/1")
        self.asked(desk, "show away", THREE)

    def test_weigh_counts_from_then_on(self):
        desk = with_nets(home="3 0-1:1/1 0-2:3/3 1-2:1/1")
        self.asked(desk, "way home 0 2", "0 1 2")
        desk.tell("weigh home 0 1 60")
        self.asked(desk, "way home 0 2", "0 2")
        self.asked(desk, "way home 2 0", "2 1 0")

    def test_fall_with_a_new_name(self):
        desk = with_nets(home=THREE)
        self.told(desk, "fall left home 0 1", "left")
        self.told(desk, "fall right home 2 1", "right")
        self.told(desk, "fall bare home 1", "bare")
        self.told(desk, "fall same bare 0", "same")
        wanted = {"bare": "3", "home": THREE, "left": "3 1-2:1/5", "right": "3 0-1:2/2", "same": "3"}
        self.assertEqual(kept(desk), wanted)

    def test_fall_with_a_name_that_stands(self):
        desk = with_nets(home=THREE, other="2")
        self.told(desk, "fall other home 0", "other")
        self.assertEqual(kept(desk), {"home": THREE, "other": "3 1-2:1/5"})

    def test_fall_with_its_own_name(self):
        desk = with_nets(home=THREE, other=THREE)
        self.told(desk, "fall home home 0 1", "home")
        self.assertEqual(kept(desk), {"home": "3 1-2:1/5", "other": THREE})
        self.refuses(desk, NoTie, {"place": None}, "fall home home 0 1")
        self.told(desk, "fall home home 2", "home")
        self.assertEqual(kept(desk), {"home": "3", "other": THREE})

    def test_both_nets_changed_behind_a_fall(self):
        desk = with_nets(home=LIKE)
        desk.tell("fall left home 3 4")
        desk.tell("weigh left 0 1 9")
        desk.tell("fall left left 2")
        self.assertEqual(kept(desk), {"home": LIKE, "left": "5 0-1:9/1 1-3:1/1"})
        desk.tell("weigh home 1 3 8")
        desk.tell("weigh home 0 1 6")
        self.assertEqual(desk.tell("show left"), "5 0-1:9/1 1-3:1/1")
        desk.tell("drop home")
        self.assertEqual(kept(desk), {"left": "5 0-1:9/1 1-3:1/1"})
        self.asked(desk, "way left 0 3", "0 1 3")

    def test_a_net_taken_over_and_changed(self):
        desk = with_nets(home=THREE)
        desk.tell("fall twin home 0 1")
        desk.tell("net home 2 0-1:1/1")
        self.assertEqual(kept(desk), {"home": "2 0-1:1/1", "twin": "3 1-2:1/5"})

    def test_two_desks(self):
        one, other = Desk(), Desk()
        one.tell(f"net home {THREE}")
        self.assertEqual(kept(other), {})
        self.refuses(other, NoName, {"name": "home"}, "show home")
        other.tell("net home 2 0-1:1/1")
        other.tell("net away 2")
        one.tell("weigh home 0 1 5")
        self.assertEqual(kept(one), {"home": "3 0-1:5/2 1-2:1/5"})
        self.assertEqual(kept(other), {"away": "2", "home": "2 0-1:1/1"})
        other.tell("drop home")
        self.assertEqual(kept(one), {"home": "3 0-1:5/2 1-2:1/5"})

    def test_names_that_are_beginnings_of_one_another(self):
        desk = with_nets(a="2", ab=THREE, abc="4")
        self.asked(desk, "show a", "2")
        self.asked(desk, "show ab", THREE)
        self.asked(desk, "show abc", "4")
        desk.tell("drop ab")
        self.assertEqual(kept(desk), {"a": "2", "abc": "4"})
        self.refuses(desk, NoName, {"name": "ab"}, "show ab")

    def test_names_that_are_words_of_the_lines(self):
        desk = Desk()
        for name in HEADS + ("tie", "house", "ties", "houses", "none", "nobody", "over", "cut", "bar", "far"):
            self.told(desk, f"net {name} {THREE}", name)
            self.asked(desk, f"table {name} 2", "1 2 -")
            self.asked(desk, f"order {name} {name} 0", "nobody")
        self.told(desk, "fall fall all 0 1", "fall")
        self.told(desk, "weigh weigh 0 1 9", "weigh")
        self.asked(desk, "show weigh", "3 0-1:9/2 1-2:1/5")
        self.asked(desk, "way way 0 2", "0 1 2")
        self.told(desk, "drop drop", "drop")
        self.told(desk, "drop all", "all")
        self.assertNotIn("all", kept(desk))


class AnswersTest(DeskCase):
    def test_table(self):
        desk = with_nets(home=THREE, parted=net_text(self.net(PARTED)))
        self.asked(desk, "table home 0", "- 0 1")
        self.asked(desk, "table home 2", "1 2 -")
        self.asked(desk, "table parted 3", "- - - - - - -")
        self.asked(desk, "table parted 4", "- - - - - 4 -")

    def test_way(self):
        desk = with_nets(home=THREE, parted=net_text(self.net(PARTED)))
        self.asked(desk, "way home 0 2", "0 1 2")
        self.asked(desk, "way home 2 0", "2 1 0")
        self.asked(desk, "way home 1 1", "1")
        self.asked(desk, "way parted 0 4", "none")
        self.asked(desk, "way parted 3 3", "3")

    def test_spare(self):
        desk = with_nets(home=LIKE)
        self.asked(desk, "spare home 0 4 tie", "2")
        self.asked(desk, "spare home 0 4 house", "2")
        self.asked(desk, "spare home 1 4 tie", "none")
        self.asked(desk, "spare home 2 1 tie", "3")
        # A spare may be the house 0.
        self.asked(desk, "spare home 2 4 tie", "0")
        self.asked(desk, "spare home 1 0 tie", "none")

    def test_lost(self):
        desk = with_nets(home=LIKE)
        self.asked(desk, "lost home 4 1 3", "0 1")
        self.asked(desk, "lost home 4 3 1", "0 1")
        self.asked(desk, "lost home 4 0 1", "nobody")
        self.asked(desk, "lost home 4 3", "nobody")
        ring = with_nets(ring=net_text(self.net(TWELVE_RING)))
        self.asked(ring, "lost ring 0 3", "4 5 6")
        self.asked(ring, "lost ring 0 0 1", "1 2 3 4 5 6")

    def test_hand(self):
        desk = with_nets(home=LIKE, tri="3 0-1:1/1 0-2:1/1 1-2:1/1", square="4 0-1:1/1 0-2:1/1 1-3:2/2 2-3:2/2")
        self.asked(desk, "hand tri 0 1", "over 2")
        self.asked(desk, "hand square 0 1", "over 2 3")
        self.asked(desk, "hand home 3 4", "cut 0 1 2 3")
        self.asked(desk, "hand home 4 3", "cut 4")

    def test_trees(self):
        desk = with_nets(bows=BOWS, tri="3 0-1:1/1 0-2:1/1 1-2:1/1", parted=net_text(self.net(PARTED)), two="2 0-1:1/1")
        self.asked(desk, "trees tri 0 ties", "trees")
        self.asked(desk, "trees tri 2 houses", "trees")
        self.asked(desk, "trees bows 0 ties", "bar 4-5 5")
        self.asked(desk, "trees bows 5 ties", "bar 4-5 0 1 2 3 4")
        self.asked(desk, "trees bows 0 houses", "bar 2 3 4 5")
        self.asked(desk, "trees two 1 houses", "bar 0-1 0")
        self.asked(desk, "trees parted 0 ties", "far 3 4 5 6")
        self.asked(desk, "trees parted 3 houses", "far 0 1 2 4 5 6")
        # A house that bars and is the house 0.
        self.asked(with_nets(x="3 0-1:1/1 0-2:1/1"), "trees x 2 houses", "bar 0 1")

    def test_order(self):
        desk = with_nets(home=THREE, ring=net_text(self.net(TWELVE_RING)))
        desk.tell("fall left home 1 2")
        desk.tell("fall cut ring 0 1")
        self.asked(desk, "order home left 0", "2")
        self.asked(desk, "order left home 2", "1 0")
        self.asked(desk, "order home left 2", "0 1")
        self.asked(desk, "order home home 2", "nobody")
        self.asked(desk, "order ring cut 0", "6 5 4 3 2 1")
        self.asked(desk, "order cut ring 0", "1 2 3 4 5 6")

    def test_as_the_functions_tell(self):
        rows = random_nets(17, 12, 6) + [LINE, PARTED, SQUARES, UNLIKE_RING, TWO, TWO_BARE]
        for count, ties in rows:
            net = Net(count, ties)
            desk = with_nets(it=net_text(net))
            for t in range(count):
                self.assertEqual(desk.tell(f"table it {t}"), table_text(next_table(net, t)))
                for a in range(count):
                    self.assertEqual(desk.tell(f"way it {a} {t}"), listed(least_way(net, a, t), "none"))
                for fall in all_falls(count, ties):
                    line = " ".join(str(word) for word in ("lost it", t) + fall[1:])
                    self.same_or_refused(desk, line, lambda: listed(lost_houses(net, t, fall), "nobody"))
                    line = " ".join(str(word) for word in ("fall left it",) + fall[1:])
                    self.assertEqual(desk.tell(line), "left")
                    self.assertEqual(desk.tell("show left"), net_text(net.without(fall)))
                    order = listed(change_order(net, net.without(fall), t), "nobody")
                    self.assertEqual(desk.tell(f"order it left {t}"), order)
                for word in WORDS:
                    self.same_or_refused(desk, f"trees it {t} {word}", lambda: self.trees_text(two_trees(net, t, word)))
                    for a in range(count):
                        self.same_or_refused(desk, f"spare it {a} {t} {word}",
                                             lambda: self.spare_text(spare_of(net, a, t, word)))
                for a in range(count):
                    self.same_or_refused(desk, f"hand it {a} {t}", lambda: self.hand_text(handed_over(net, a, t)))

    def trees_text(self, told):
        if told[0] == "bar":
            bar = "-".join(str(house) for house in told[1]) if isinstance(told[1], tuple) else str(told[1])
            return f"bar {bar} {listed(told[2], '')}"
        return "trees" if told[0] == "trees" else f"far {listed(told[1], '')}"

    def spare_text(self, told):
        return str(told[1]) if told[0] else "none"

    def hand_text(self, told):
        return f"cut {listed(told[1], '')}" if told[0] == "cut" else f"over {listed(told[1:], '')}"

    def same_or_refused(self, desk, line, call):
        """Looks that a line is answered or refused as the function answers or refuses."""
        try:
            wanted = call()
        except SpareError as error:
            self.refused(type(error), vars(error), desk.tell, line)
        else:
            self.assertEqual(desk.tell(line), wanted, line)


class NoLineTest(DeskCase):
    def desk(self):
        return with_nets(a=THREE, b=LIKE)

    def test_good_lines(self):
        for line in GOOD:
            self.desk().tell(line)

    def test_no_such_first_word(self):
        desk = self.desk()
        for line in ("", " ", "x", "Net a 2", "NET a 2", "nets", "al", "alll", "All", " all", "  show a", "-", "a", "0",
                     "show\ta", "shows a", "sho a", "steps a 0 1 5", "loads a", "~" * 800, "all\n", "net\na 2", "a 2"):
            self.refuses(desk, NoLine, {}, line)

    def test_a_word_too_few_or_too_many(self):
        desk = self.desk()
        for line in GOOD:
            words = line.split(" ")
            both_falls = words[0] in ("fall", "lost")
            if not both_falls or len(words) == 5:
                for more in ("0", "a", "tie", "0 0", "a b c"):
                    self.refuses(desk, NoLine, {}, f"{line} {more}")
            if len(words) > 1 and not (both_falls and len(words) == 5):
                self.refuses(desk, NoLine, {}, " ".join(words[:-1]))
            if len(words) > 1:
                self.refuses(desk, NoLine, {}, words[0])
        for line in ("net", "net c", "net a"):
            self.refuses(desk, NoLine, {}, line)

    def test_a_word_without_signs(self):
        desk = self.desk()
        for line in GOOD:
            words = line.split(" ")
            for at in range(len(words)):
                self.refuses(desk, NoLine, {}, " ".join(words[:at] + [""] + words[at:]))
                self.refuses(desk, NoLine, {}, " ".join(words[:at] + [""] + words[at + 1:]))
            self.refuses(desk, NoLine, {}, line + " ")
            self.refuses(desk, NoLine, {}, " " + line)

    def test_a_net_without_a_name(self):
        desk = self.desk()
        for line in ("net  2", "net  ", "net   2", " net c 2", "net  c 2", "net  x y", "net ", "net  A 2"):
            self.refuses(desk, NoLine, {}, line)

    def test_within_a_net_blanks_are_no_matter_of_the_line(self):
        desk = self.desk()
        self.refuses(desk, NoText, {"at": 0}, "net c ")
        self.refuses(desk, NoText, {"at": 0}, "net c  2")
        self.refuses(desk, NoText, {"at": 1}, "net c 2 ")
        self.refuses(desk, NoText, {"at": 1}, "net c 3  0-1:2/2")
        self.refuses(desk, NoText, {"at": 2}, "net c 3 0-1:2/2 ")
        self.refuses(desk, NoName, {"name": "C"}, "net C  ")

    def test_ahead_of_all_others(self):
        desk = self.desk()
        for line in ("show C  ", "show nobody x", "fall Home nobody", "fall Home nobody x x x", "way nobody x",
                     "way a x", "weigh nobody 9 9", "trees a 0", "spare a 9 9", "order a b 9 9", "hand a 9 9 9",
                     "table nobody", "drop nobody nobody", "all nobody", "spare a 0 0 other more", "order nobody  0"):
            self.refuses(desk, NoLine, {}, line)


class NoNameTest(DeskCase):
    def test_a_new_name_that_is_none(self):
        desk = with_nets(a=THREE)
        for name in NO_NAMES:
            self.refuses(desk, NoName, {"name": name}, f"net {name} {THREE}")
            self.refuses(desk, NoName, {"name": name}, f"fall {name} a 0 1")
            self.refuses(desk, NoName, {"name": name}, f"fall {name} a 0")
            # Ahead of a text that is none and of a name by which no net stands.
            self.refuses(desk, NoName, {"name": name}, f"net {name} x")
            self.refuses(desk, NoName, {"name": name}, f"net {name} ")
            self.refuses(desk, NoName, {"name": name}, f"fall {name} nobody x y")
            self.refuses(desk, NoName, {"name": name}, f"fall {name} {name} x")

    def test_a_name_by_which_no_net_stands(self):
        desk = with_nets(a=THREE, home="2")
        for name in NO_NAMES + ("b", "aa", "hom", "homes", "nobody"):
            for line in ("weigh {} 0 1 5", "drop {}", "show {}", "table {} 0", "way {} 0 1", "spare {} 0 1 tie",
                         "lost {} 0 1", "lost {} 0 1 2", "hand {} 0 1", "trees {} 0 ties", "order {} a 0",
                         "order a {} 0", "order {} other 0", "fall c {} 0", "fall c {} 0 1", "fall a {} 0"):
                self.refuses(desk, NoName, {"name": name}, line.format(name))
            # Ahead of numbers that are none, of houses that are none and of other words.
            for line in ("weigh {} x -1 00", "table {} x", "way {} x 99", "spare {} 99 x other", "lost {} x y",
                         "lost {} 9 9 9", "hand {} -1 7", "trees {} x other", "order {} a x", "order a {} x",
                         "fall c {} x", "fall c {} 9 9"):
                self.refuses(desk, NoName, {"name": name}, line.format(name))

    def test_the_first_one(self):
        desk = with_nets(a=THREE)
        self.refuses(desk, NoName, {"name": "one"}, "order one two 0")
        self.refuses(desk, NoName, {"name": "two"}, "order a two 0")
        self.refuses(desk, NoName, {"name": "one"}, "order one a 0")
        # A fall's new name has no need to stand, and is not made where the other one does not.
        self.refuses(desk, NoName, {"name": "one"}, "fall new one 0")
        self.refuses(desk, NoName, {"name": "new"}, "show new")
        self.refuses(desk, NoName, {"name": "new"}, "fall new new 0")


class NoTextTest(DeskCase):
    def test_numbers_that_are_none(self):
        desk = with_nets(a=THREE, b=LIKE)
        rows = (("weigh a 0 1 5", (2, 3, 4)), ("fall c a 0 1", (3, 4)), ("fall c a 0", (3,)), ("table a 0", (2,)),
                ("way a 0 1", (2, 3)), ("spare a 0 2 tie", (2, 3)), ("lost a 0 1", (2, 3)), ("lost a 0 1 2", (2, 3, 4)),
                ("hand b 0 1", (2, 3)), ("trees a 0 ties", (2,)), ("order a a 0", (3,)))
        for line, places in rows:
            for at in places:
                for number in NO_NUMBERS:
                    words = line.split(" ")
                    words[at] = number
                    self.refuses(desk, NoText, {"at": at}, " ".join(words))
                    # The first such, and ahead of houses that are none.
                    for place in places:
                        words[place] = words[place] if place == at else "99" if place < at else "x"
                    self.refuses(desk, NoText, {"at": at}, " ".join(words))

    def test_ahead_of_all_that_the_points_tell(self):
        desk = with_nets(a=THREE, b=LIKE)
        for line, at in (("weigh a 9 9 x", 4), ("weigh a 0 2 x", 4), ("weigh a 0 x 0", 3), ("fall c a 9 x", 4),
                         ("way a 9 x", 3), ("spare a 9 x other", 3), ("spare a x 0 other", 2), ("lost a 9 x", 3),
                         ("lost a 0 0 x", 4), ("hand a 9 x", 3), ("trees a x other", 2), ("order a b x", 3)):
            self.refuses(desk, NoText, {"at": at}, line)

    def test_a_net(self):
        desk = with_nets(a=THREE)
        for text, at in (("x", 0), ("03", 0), ("3 0-1", 1), ("3 0-1:2/2 1-2:1/05", 2), ("1 x", 1), ("3 0-9:0/0 x", 2),
                         (" 3", 0), ("3  ", 1), ("net", 0), ("-3", 0), ("3 0-1:2/2 1-2:1/5 all", 3)):
            for name in ("a", "new"):
                self.refuses(desk, NoText, {"at": at}, f"net {name} {text}")


class PointsTest(DeskCase):
    def desk(self):
        return with_nets(a=THREE, b=LIKE, two="2 0-1:1/1", parted=net_text(self.net(PARTED)))

    def test_net(self):
        desk = self.desk()
        for name in ("a", "new"):
            self.refuses(desk, NoCount, {}, f"net {name} 1")
            self.refuses(desk, NoCount, {}, f"net {name} 13 99-99:0/0")
            self.refuses(desk, NoHouse, {"house": 7}, f"net {name} 3 0-0:0/0 7-8:1/1")
            self.refuses(desk, NoTie, {"place": 1}, f"net {name} 3 0-1:0/1 1-0:1/1")
            self.refuses(desk, NoWeight, {"place": 1}, f"net {name} 3 0-1:1/1 1-2:1/0")

    def test_weigh(self):
        desk = self.desk()
        for house in (3, 12, FORTY):
            for weight in (1, 0):
                self.refuses(desk, NoHouse, {"house": house}, f"weigh a {house} 0 {weight}")
                self.refuses(desk, NoHouse, {"house": house}, f"weigh a 0 {house} {weight}")
                self.refuses(desk, NoHouse, {"house": house}, f"weigh a {house} 99 {weight}")
        for a, b in ((0, 2), (2, 0), (1, 1)):
            for weight in (1, 0):
                self.refuses(desk, NoTie, {"place": None}, f"weigh a {a} {b} {weight}")
        self.refuses(desk, NoWeight, {"place": None}, "weigh a 0 1 0")
        self.refuses(desk, NoWeight, {"place": None}, "weigh a 2 1 0")

    def test_fall(self):
        desk = self.desk()
        for name in ("a", "new", "b"):
            for house in (3, 12, FORTY):
                self.refuses(desk, NoHouse, {"house": house}, f"fall {name} a {house}")
                self.refuses(desk, NoHouse, {"house": house}, f"fall {name} a {house} 99")
                self.refuses(desk, NoHouse, {"house": house}, f"fall {name} a 2 {house}")
            self.refuses(desk, NoTie, {"place": None}, f"fall {name} a 0 2")
            self.refuses(desk, NoTie, {"place": None}, f"fall {name} a 1 1")

    def test_table_and_way(self):
        desk = self.desk()
        for house in (3, 12, FORTY):
            self.refuses(desk, NoHouse, {"house": house}, f"table a {house}")
            self.refuses(desk, NoHouse, {"house": house}, f"way a {house} 99")
            self.refuses(desk, NoHouse, {"house": house}, f"way a 0 {house}")

    def test_spare(self):
        desk = self.desk()
        for house in (3, FORTY):
            for word in ("tie", "other"):
                self.refuses(desk, NoHouse, {"house": house}, f"spare a {house} 99 {word}")
                self.refuses(desk, NoHouse, {"house": house}, f"spare a 0 {house} {word}")
        for word in ("ties", "houses", "Tie", "t", "0"):
            self.refuses(desk, NoWord, {}, f"spare a 0 2 {word}")
            self.refuses(desk, NoWord, {}, f"spare a 0 0 {word}")
        self.refuses(desk, NoNeed, {}, "spare a 0 0 tie")
        self.refuses(desk, NoNeed, {}, "spare a 0 1 house")
        self.refuses(desk, NoNeed, {}, "spare parted 0 3 tie")

    def test_lost(self):
        desk = self.desk()
        for house in (3, FORTY):
            self.refuses(desk, NoHouse, {"house": house}, f"lost a {house} 99")
            self.refuses(desk, NoHouse, {"house": house}, f"lost a {house} 0 2")
            self.refuses(desk, NoHouse, {"house": house}, f"lost a 0 {house}")
            self.refuses(desk, NoHouse, {"house": house}, f"lost a 0 {house} 99")
            self.refuses(desk, NoHouse, {"house": house}, f"lost a 0 1 {house}")
        self.refuses(desk, NoTie, {"place": None}, "lost a 0 0 2")
        self.refuses(desk, NoNeed, {}, "lost a 1 1")

    def test_hand(self):
        desk = self.desk()
        self.refuses(desk, NoHouse, {"house": 3}, "hand a 3 99")
        self.refuses(desk, NoHouse, {"house": 3}, "hand a 0 3")
        self.refuses(desk, NoTie, {"place": None}, "hand a 0 2")
        self.refuses(desk, NotLike, {"tie": (1, 2)}, "hand a 0 1")
        self.refuses(desk, NotLike, {"tie": (0, 1)}, "hand parted 4 5")

    def test_trees(self):
        desk = self.desk()
        for word in ("ties", "other"):
            self.refuses(desk, NoHouse, {"house": 3}, f"trees a 3 {word}")
        for word in ("tie", "house", "Ties", "0"):
            self.refuses(desk, NoWord, {}, f"trees a 0 {word}")

    def test_order(self):
        desk = self.desk()
        self.refuses(desk, NoCount, {}, "order a b 0")
        self.refuses(desk, NoCount, {}, "order b a 99")
        self.refuses(desk, NoHouse, {"house": 3}, "order a a 3")
        desk.tell("fall c a 1")
        self.refuses(desk, NoHouse, {"house": 12}, "order a c 12")


class PromiseTest(DeskCase):
    def test_many_lines_by_chance(self):
        # Lines of good and bad words alike: each is answered or refused, and what is refused changes nothing.
        chance = random.Random(12)
        words = ("a", "b", "c", "A", "0", "1", "2", "3", "01", "tie", "house", "ties", "houses", "", "2 0-1:1/1", THREE)
        desk = with_nets(a=THREE, b=LIKE)
        counted = {True: 0, False: 0}
        for _ in range(12000):
            line = " ".join([chance.choice(HEADS)] + [chance.choice(words) for _ in range(chance.randint(0, 4))])
            before = kept(desk)
            try:
                answer = desk.tell(line)
            except SpareError:
                self.assertEqual(kept(desk), before)
                counted[False] += 1
            else:
                self.assertIs(type(answer), str)
                if line.split(" ")[0] not in ("net", "weigh", "fall", "drop"):
                    self.assertEqual(kept(desk), before)
                counted[True] += 1
        self.assertGreater(min(counted.values()), 200)

    def test_a_large_net(self):
        desk = with_nets(ring=net_text(self.net(TWELVE_RING)), line=net_text(self.net(TWELVE_LINE)))
        self.asked(desk, "trees ring 0 houses", "trees")
        self.asked(desk, "way line 0 11", "0 1 2 3 4 5 6 7 8 9 10 11")
        text = net_text(self.net(TWELVE_WHOLE))
        self.told(desk, f"net whole {text}", "whole")
        self.asked(desk, "show whole", text)


if __name__ == "__main__":
    unittest.main()
