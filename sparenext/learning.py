"""How the houses learn of a fall one by one, and then send by the next houses in the net without it."""

from sparenext.changing import change_or_ring, houses_in_order
from sparenext.falls import fallen_table
from sparenext.sending import next_table
from sparenext.ways import distances_to


def learning_order(net, t, fall):
    """Tell the houses that send otherwise when they have learnt, in an order in which no ring ever arises."""
    old = fallen_table(net, t, fall)
    left = net.without(fall)
    return houses_in_order(old, next_table(left, t), distances_to(left, t))


def learning_or_ring(net, t, fall):
    """Tell ("ring", houses), a ring that can arise while they learn, or ("falls", numbers) that show that none can."""
    old = fallen_table(net, t, fall)
    return change_or_ring(old, next_table(net.without(fall), t))
