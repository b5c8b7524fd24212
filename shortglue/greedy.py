"""Words glued two by two, the greatest lap first."""

from shortglue.errors import NoOrder
from shortglue.kinds import are_numbers, is_row
from shortglue.orders import is_order


def greedy(family):
    """The joins (i, j, k) in the order in which they are made."""
    numbers = list(range(family.many()))
    # What may not be joined once may never be joined later, so one walk is enough.
    tries = sorted([(-family.laps[i][j], i, j) for i in numbers for j in numbers if i != j])
    first_of = {number: number for number in numbers}
    last_of = {number: number for number in numbers}
    joins = []
    for less, i, j in tries:
        # first_of knows the last words of chains alone, last_of the first ones;
        # a chain whose last word is i and whose first is j would become a ring.
        if i in first_of and j in last_of and first_of[i] != j:
            joins.append((i, j, -less))
            first = first_of.pop(i)
            last = last_of.pop(j)
            first_of[last] = first
            last_of[first] = last
    return tuple(joins)


def are_joins(thing, many):
    """Whether a thing has the form of the joins that make a chain of so many things."""
    if not is_row(thing) or len(thing) != max(many - 1, 0):
        return False
    return all([are_numbers(row, 3) for row in thing])


def order_of_joins(joins, many):
    """The order of the one chain that joins make of so many things."""
    if not are_joins(joins, many):
        raise NoOrder()
    followers = {i: j for i, j, k in joins}
    led = {j: True for i, j, k in joins}
    order = [number for number in range(many) if number not in led]
    # With one thing alone that nothing leads, all leads are different, so the
    # walk from it comes to no thing twice.
    if len(order) > 1:
        raise NoOrder()
    while order and order[-1] in followers:
        order.append(followers[order[-1]])
    if not is_order(order, many):
        raise NoOrder()
    return tuple(order)


def is_greedy(family, joins):
    """Whether joins are those that greedy tells, as rows of any kind."""
    return are_joins(joins, family.many()) and tuple([tuple(row) for row in joins]) == greedy(family)
