"""The desk: it keeps nets by names, and answers lines."""

from sparenext.changing import change_order
from sparenext.errors import NoLine, NoName, NoText
from sparenext.falls import lost_houses
from sparenext.handing import handed_over
from sparenext.nets import refuse_untied, refuse_weight, weighed
from sparenext.sending import next_table
from sparenext.spares import spare_of
from sparenext.texts import net_text, number_of, read_net, table_text
from sparenext.trees import two_trees
from sparenext.ways import least_way

LETTERS = "abcdefghijklmnopqrstuvwxyz"
MOST_LETTERS = 8

# What stands in a line behind its first word: new is a name that need not stand yet, name one by which a net stands.
KINDS = {
    "net": ("new", "word"),
    "weigh": ("name", "number", "number", "number"),
    "fall": ("new", "name", "number", "number"),
    "drop": ("name",),
    "show": ("name",),
    "table": ("name", "number"),
    "way": ("name", "number", "number"),
    "spare": ("name", "number", "number", "word"),
    "lost": ("name", "number", "number", "number"),
    "hand": ("name", "number", "number"),
    "trees": ("name", "number", "word"),
    "order": ("name", "name", "number"),
    "all": (),
}

# The lines of a fall, which has one house or two.
SHORTER = ("fall", "lost")


def _words_of(line):
    """Tell the words of a line, all that follows the name of a new net as one; refuse what is no line."""
    words = line.split(" ")
    if words[0] not in KINDS:
        raise NoLine("no line begins so")
    needed = words
    if words[0] == "net":
        # The text of a net has words of its own, and whether those are any is asked later on.
        words = line.split(" ", 2)
        needed = words[:2]
    if "" in needed:
        raise NoLine("a word without signs")
    lacking = len(KINDS[words[0]]) + 1 - len(words)
    if lacking != 0 and not (lacking == 1 and words[0] in SHORTER):
        raise NoLine("a word too few or too many")
    return words


def _is_name(word):
    return 1 <= len(word) <= MOST_LETTERS and all([sign in LETTERS for sign in word])


def _number_at(words, at):
    number = number_of(words[at])
    if number is None:
        raise NoText(at)
    return number


def _fall_of(a, b):
    return ("house", a) if b is None else ("tie", a, b)


def _joined(things):
    return " ".join([str(thing) for thing in things])


def _net(text):
    return read_net(text)


def _weigh(net, a, b, weight):
    refuse_untied(net, a, b)
    refuse_weight(weight)
    return weighed(net, a, b, weight)


def _fall(net, a, b=None):
    return net.without(_fall_of(a, b))


def _show(net):
    return net_text(net)


def _table(net, t):
    return table_text(next_table(net, t))


def _way(net, a, t):
    way = least_way(net, a, t)
    return "none" if way is None else _joined(way)


def _spare(net, a, t, word):
    found, spare = spare_of(net, a, t, word)
    return str(spare) if found else "none"


def _lost(net, t, a, b=None):
    return _joined(lost_houses(net, t, _fall_of(a, b))) or "nobody"


def _hand(net, a, e):
    told = handed_over(net, a, e)
    houses = told[1] if told[0] == "cut" else told[1:]
    return _joined([told[0], *houses])


def _trees(net, t, word):
    told = two_trees(net, t, word)
    if told[0] == "trees":
        return "trees"
    bars = []
    if told[0] == "bar":
        bars = [f"{told[1][0]}-{told[1][1]}" if isinstance(told[1], tuple) else told[1]]
    # Who is far or barred stands last.
    return _joined([told[0], *bars, *told[-1]])


def _order(one, other, t):
    return _joined(change_order(one, other, t)) or "nobody"


# What makes the net that stands by the line's first name from then on.
MAKERS = {"net": _net, "weigh": _weigh, "fall": _fall}

TELLERS = {"show": _show, "table": _table, "way": _way, "spare": _spare, "lost": _lost, "hand": _hand,
           "trees": _trees, "order": _order}


class Desk:
    """Keeps nets by names of one to eight small letters."""

    def __init__(self):
        self._nets = {}

    def tell(self, line):
        """Tell the answer to a line; what is refused changes nothing."""
        words = _words_of(line)
        kinds = KINDS[words[0]]
        self._refuse_names(kinds, words)
        handed = self._handed(kinds, words)
        if words[0] in MAKERS:
            maker = MAKERS[words[0]]
            self._nets[words[1]] = maker(*handed)
            return words[1]
        if words[0] == "drop":
            del self._nets[words[1]]
            return words[1]
        if words[0] == "all":
            return _joined(sorted(self._nets))
        teller = TELLERS[words[0]]
        return teller(*handed)

    def _refuse_names(self, kinds, words):
        # A new name stands ahead of the others in each line, so it is refused ahead of them.
        for kind, word in zip(kinds, words[1:]):
            if kind == "new" and not _is_name(word):
                raise NoName(word)
            if kind == "name" and word not in self._nets:
                raise NoName(word)

    def _handed(self, kinds, words):
        """Tell what the words behind the first one stand for, a new name left out."""
        handed = []
        for at in range(1, len(words)):
            if kinds[at - 1] == "name":
                handed.append(self._nets[words[at]])
            elif kinds[at - 1] == "number":
                handed.append(_number_at(words, at))
            elif kinds[at - 1] == "word":
                handed.append(words[at])
        return handed
