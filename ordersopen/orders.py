"""The orders of a task without guards: their number, and each order by its number.

The operands of a node that are not in order are shuffled independently of
what is within them. So of all orders that begin in the same way, the share in
which the next step lies in one of these operands is its share of the steps
that are left in them. This holds from node to node down to the step.
"""

from ordersopen.errors import NoNumber, NoOrder
from ordersopen.layout import refuse_guards
from ordersopen.values import is_integer


def is_order(task, value):
    """Tell whether any value is an order."""
    refuse_guards(task)
    befores = task.layout.befores
    if not isinstance(value, tuple) or len(value) != len(befores):
        return False
    done = 0
    for step in value:
        if not is_integer(step) or not 0 <= step < len(befores):
            return False
        if (done >> step) & 1 or befores[step] & ~done:
            return False
        done = done | (1 << step)
    return True


def refuse_no_order(task, value):
    """Raise NoOrder if any value is not an order."""
    if not is_order(task, value):
        raise NoOrder(value)


def count_orders(task):
    """Return the number of orders."""
    refuse_guards(task)
    total = 1
    for span in task.layout.spans:
        if not span.is_fixed:
            total = total * shuffles([one.size for one in span.below])
    return total


def shuffles(sizes):
    """Return in how many ways rows of these lengths can be merged into one."""
    total = 1
    length = 0
    for size in sizes:
        for at in range(1, size + 1):
            length += 1
            total = total * length // at
    return total


def order_at(task, number):
    """Return the order with this number."""
    total = count_orders(task)
    if not is_integer(number) or not 0 <= number < total:
        raise NoNumber(number)
    left = steps_left(task)
    share, rest = total, number
    order = []
    while len(order) < len(task):
        span = task.layout.root
        below = shares(span, left, share)
        while len(below) > 0:
            span, skipped, share = [row for row in below if row[1] <= rest][-1]
            rest -= skipped
            below = shares(span, left, share)
        order.append(own_left(span, left))
        take(task, order[-1], left)
    return tuple(order)


def number_of(task, order):
    """Return the number of an order."""
    refuse_no_order(task, order)
    left = steps_left(task)
    share = count_orders(task)
    number = 0
    for step in order:
        span = task.layout.root
        for at in task.layout.owners[step].path:
            below = {one.path: (skipped, part) for one, skipped, part in shares(span, left, share)}
            span = span.below[at]
            skipped, share = below[span.path]
            number += skipped
        take(task, step, left)
    return number


def steps_left(task):
    """Return how many steps there are in each node, by its path."""
    return {span.path: span.size for span in task.layout.spans}


def shares(span, left, share):
    """List (operand, skipped, part) for the operands of a node in which the next step can lie.

    Of `share` orders whose next step lies in the node, the `part` ones that
    stand behind the first `skipped` ones have it in this operand.
    """
    below = [one for one in span.below if left[one.path] > 0]
    if span.is_fixed:
        below = below[:1]
    many = sum([left[one.path] for one in below])
    rows = []
    skipped = 0
    for one in below:
        part = share * left[one.path] // many
        rows.append((one, skipped, part))
        skipped += part
    return rows


def own_left(span, left):
    """Return the first own step of a node that is left, if only own steps are."""
    return span.own[-left[span.path]]


def take(task, step, left):
    """Take a step away from the steps that are left in the nodes around it."""
    path = task.layout.owners[step].path
    for depth in range(len(path) + 1):
        left[path[:depth]] -= 1
