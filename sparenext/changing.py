"""Tables that change house by house, and the rings that can arise while they do."""

from sparenext.errors import NoCount
from sparenext.nets import is_house, refuse_unlike_counts
from sparenext.sending import falling_numbers, next_table, refuse_table, ring_among, ring_or_numbers
from sparenext.ways import distances_to


def houses_in_order(old, new, sums):
    """Tell the houses that send otherwise by the new table, nearest first by these sums, those without one last."""
    ranked = [(sums[house] is None, sums[house] or 0, house) for house in _changed(old, new)]
    return [house for _, _, house in sorted(ranked)]


def _changed(old, new):
    """Tell the list, rising, of the houses that send otherwise by the new table."""
    return [house for house in range(len(old)) if old[house] != new[house]]


def _refuse_tables(old, new):
    refuse_table(old)
    refuse_table(new)
    if len(old) != len(new):
        raise NoCount("tables of unlike counts")


def _sends(old, new):
    """Tell for each house the list of the houses to which it sends by the old and by the new table."""
    return [[house for house in both if house is not None] for both in zip(old, new)]


def change_or_ring(old, new):
    """Tell ("ring", houses), a ring that can arise, or ("falls", numbers) that show that none can."""
    _refuse_tables(old, new)
    sends = _sends(old, new)
    numbers = falling_numbers(sends)
    if None in numbers:
        return ("ring", ring_among(sends, numbers))
    return ("falls", numbers)


def is_change_ring(old, new, houses):
    """Tell whether a list of whole numbers is a ring that can arise."""
    _refuse_tables(old, new)
    if not houses or not all([is_house(len(old), house) for house in houses]):
        return False
    if len(set(houses)) != len(houses):
        return False
    sends = _sends(old, new)
    # The place ahead of the first one, -1, is that of the last one.
    return all([houses[at] in sends[houses[at - 1]] for at in range(len(houses))])


def are_change_numbers(old, new, numbers):
    """Tell whether a list of whole numbers falls along every sending by the old and by the new table."""
    _refuse_tables(old, new)
    if len(numbers) != len(old):
        return False
    sends = _sends(old, new)
    return all([numbers[house] > numbers[onward] for house in range(len(old)) for onward in sends[house]])


def change_order(one, other, t):
    """Tell the houses whose next house to t is unlike in both nets, in an order in which no ring ever arises."""
    refuse_unlike_counts(one, other)
    return houses_in_order(next_table(one, t), next_table(other, t), distances_to(other, t))


def order_holds(old, new, order):
    """Tell whether an order has just the houses that change, and no ring is there at any time."""
    _refuse_tables(old, new)
    if sorted(order) != _changed(old, new):
        return False
    table = list(old)
    calm = [ring_or_numbers(table)[0]]
    for house in order:
        table[house] = new[house]
        calm.append(ring_or_numbers(table)[0])
    return all(calm)
