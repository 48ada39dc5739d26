"""What comes of the orders of a task without guards, with numbers of terms."""

from ordersopen.doing import ending_of
from ordersopen.flips import racing_of


def class_endings(task, racing, terms):
    """Return a dict from the bits of each class to what comes of its orders."""
    return {bits: ending_of(task.layout, racing.least_order_of(bits), terms) for bits in racing.all_bits()}


def least_orders(task, terms):
    """Return a dict from all that comes of the orders to the least order of which it comes, ascending by these."""
    racing = racing_of(task)
    found = {}
    for order in sorted([racing.least_order_of(bits) for bits in racing.all_bits()]):
        ending = ending_of(task.layout, order, terms)
        if ending not in found:
            found[ending] = order
    return found
