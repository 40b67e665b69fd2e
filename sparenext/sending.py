"""Tables of where each house sends on to, sendings by them, and rings."""

from sparenext.nets import refuse_houses
from sparenext.ways import distances_to, step_on


def refuse_table(table):
    """Refuse the first number in a table that is none of its own houses."""
    refuse_houses(len(table), [house for house in table if house is not None])


def falling_numbers(sends):
    """Tell numbers, each greater than those of all houses to which a house can send; None where a ring can be met.

    Sends has, for each house, the list of the houses to which it can send.
    """
    numbers = [None] * len(sends)
    changed = True
    while changed:
        changed = False
        for house in range(len(sends)):
            beneath = [numbers[onward] for onward in sends[house]]
            if numbers[house] is None and None not in beneath:
                numbers[house] = max(beneath, default=-1) + 1
                changed = True
    return numbers


def ring_among(sends, numbers):
    """Tell a ring of houses that have no falling number, of which there is one at least."""
    houses = [numbers.index(None)]
    # Whoever has no number can send to another one that has none, so the walk never stops.
    while houses[-1] not in houses[:-1]:
        unnumbered = [onward for onward in sends[houses[-1]] if numbers[onward] is None]
        houses.append(unnumbered[0])
    return houses[houses.index(houses[-1]):-1]


def next_table(net, t):
    """Tell the table of the next houses of all houses to t."""
    refuse_houses(net.count, [t])
    sums = distances_to(net, t)
    return [step_on(net, sums, a) for a in range(net.count)]


def sent_on(table, start, target):
    """Tell how a sending goes, comes, stops or ring, and the list of the houses that it goes through."""
    refuse_table(table)
    refuse_houses(len(table), [start, target])
    houses = [start]
    while houses[-1] != target:
        onward = table[houses[-1]]
        if onward is None:
            return ("stops", houses)
        if onward in houses:
            return ("ring", houses + [onward])
        houses.append(onward)
    return ("comes", houses)


def ring_or_numbers(table):
    """Tell (True, numbers that fall along every sending), or (False, a ring)."""
    refuse_table(table)
    sends = [[] if house is None else [house] for house in table]
    numbers = falling_numbers(sends)
    if None in numbers:
        return (False, ring_among(sends, numbers))
    return (True, numbers)
