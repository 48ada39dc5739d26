"""The classes of the orders of a task without guards, and the flips that lead from one to another."""

from ordersopen.errors import NoPair
from ordersopen.flips import class_bits, racing_of
from ordersopen.orders import refuse_no_order


def is_class(task, value):
    """Tell whether any value is a class."""
    return racing_of(task).bits_of(value) is not None


def classes(task, *, most=None):
    """Yield all classes, or those with at most so many reversed pairs: fewer pairs first, otherwise ascending."""
    racing = racing_of(task)
    found = [racing.flips_of(bits) for bits in racing.all_bits()]
    for flips in sorted(found, key=lambda one: (len(one), one)):
        if most is None or len(flips) <= most:
            yield flips


def count_classes(task):
    """Return the number of classes."""
    return len(racing_of(task).all_bits())


def class_of(task, order):
    """Return the class of an order."""
    refuse_no_order(task, order)
    places = {step: at for at, step in enumerate(order)}
    return tuple([(one, other) for one, other in racing_of(task).pairs if places[other] < places[one]])


def least_order(task, flips):
    """Return the least order of a class."""
    racing = racing_of(task)
    return racing.least_order_of(class_bits(racing, flips))


def orders_in(task, flips):
    """Return how many orders a class has."""
    racing = racing_of(task)
    aheads = racing.aheads(class_bits(racing, flips))
    counts = {0: 1}
    for many in range(len(aheads)):
        counts = one_step_on(aheads, counts)
    return sum(list(counts.values()))


def one_step_on(aheads, counts):
    """Return in how many ways each set of done steps comes about, from those with one step less."""
    found = {}
    for done, ways in counts.items():
        for step, ahead in enumerate(aheads):
            if not (done >> step) & 1 and not ahead & ~done:
                more = done | (1 << step)
                found[more] = found.get(more, 0) + ways
    return found


def flippable(task, flips):
    """List the pairs that can be flipped in a class, ascending."""
    racing = racing_of(task)
    return racing.pairs_of(racing.flippable_bits(class_bits(racing, flips)))


def flipped(task, flips, pair):
    """Return the class after a flip."""
    racing = racing_of(task)
    bits = class_bits(racing, flips)
    at = racing.index_of(pair)
    if at is None or not (racing.flippable_bits(bits) >> at) & 1:
        raise NoPair(pair)
    return racing.flips_of(bits ^ (1 << at))


def flip_path(task, one, other):
    """Return a path of flips with the fewest flips.

    One order of the first class is sorted into one of the other class by
    exchanges of neighbouring steps. This exchanges just the pairs of steps
    that the two orders have in different order, each once. None of them
    precedes the other, and those that race are flipped on the way.
    """
    racing = racing_of(task)
    bits = class_bits(racing, one)
    goal = racing.least_order_of(class_bits(racing, other))
    ranks = {step: rank for rank, step in enumerate(goal)}
    path = [racing.flips_of(bits)]
    for pair in exchanges(racing.least_order_of(bits), ranks):
        at = racing.index_of(pair)
        if at is not None:
            bits = bits ^ (1 << at)
            path.append(racing.flips_of(bits))
    return path


def exchanges(order, ranks):
    """List the pairs of neighbouring steps to exchange, one after another, until the ranks of the steps ascend."""
    row = list(order)
    found = []
    for end in range(len(row) - 1, 0, -1):
        for at in range(end):
            first, second = row[at], row[at + 1]
            if ranks[first] > ranks[second]:
                row[at], row[at + 1] = second, first
                found.append((min(first, second), max(first, second)))
    return found
