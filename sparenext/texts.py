"""How nets and tables are written as texts, and how texts are read."""

from sparenext.errors import NoText
from sparenext.nets import Net
from sparenext.sending import refuse_table

FIGURES = "0123456789"


def number_of(word):
    """Tell the number that a word writes, or None."""
    if not word or not all([sign in FIGURES for sign in word]):
        return None
    if word[0] == "0" and word != "0":
        return None
    return int(word)


def _tie_of(word):
    """Tell the tie that a word writes, or None."""
    # What a sign stands twice in, or not at all, leaves a part that is no number.
    houses, _, weights = word.partition(":")
    a, _, b = houses.partition("-")
    there, _, back = weights.partition("/")
    tie = (number_of(a), number_of(b), number_of(there), number_of(back))
    return None if None in tie else tie


def net_text(net):
    """Tell a net as a text: its count, then its ties, as in 3 0-1:2/2 1-2:1/5."""
    return " ".join([str(net.count)] + [f"{a}-{b}:{there}/{back}" for a, b, there, back in net.ties])


def read_net(text):
    """Tell the net that a text writes, its ties in whatever order and either house first."""
    words = text.split(" ")
    count = number_of(words[0])
    ties = [_tie_of(word) for word in words[1:]]
    told = [count] + ties
    if None in told:
        raise NoText(told.index(None))
    return Net(count, ties)


def table_text(table):
    """Tell a table as a text: for each house where it sends to, or a stroke where it stops."""
    refuse_table(table)
    return " ".join(["-" if house is None else str(house) for house in table])
