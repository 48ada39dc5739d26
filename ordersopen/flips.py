"""Classes of orders as integers: the pair with the index n is reversed if the bit n is set."""

from ordersopen.errors import NoClass, TooMany
from ordersopen.layout import refuse_guards
from ordersopen.steps import races
from ordersopen.values import is_integer

MOST_CLASSES = 500


class Racing:
    """The racing pairs of a task without guards, and what precedes each of its steps."""

    def __init__(self, befores, pairs):
        self.befores = befores
        self.pairs = tuple(pairs)
        self.indexes = {pair: at for at, pair in enumerate(self.pairs)}

    def index_of(self, value):
        """Return the index of a racing pair; None if any value is none."""
        if not isinstance(value, tuple) or len(value) != 2 or not all([is_integer(step) for step in value]):
            return None
        return self.indexes.get(value, None)

    def bits_of(self, value):
        """Return the bits of a class; None if any value is none."""
        if not isinstance(value, tuple):
            return None
        bits = 0
        for pair in value:
            at = self.index_of(pair)
            if at is None or bits >> at:
                return None
            bits = bits | (1 << at)
        return bits if self.least_order_of(bits) is not None else None

    def pairs_of(self, bits):
        """List the pairs whose bits are set, ascending."""
        return [pair for at, pair in enumerate(self.pairs) if (bits >> at) & 1]

    def flips_of(self, bits):
        """Return a class as it is told: the tuple of its reversed pairs."""
        return tuple(self.pairs_of(bits))

    def ordered_pairs(self, bits):
        """List (first, second) for all racing pairs, in the order that they have in a class."""
        return [(other, one) if (bits >> at) & 1 else (one, other) for at, (one, other) in enumerate(self.pairs)]

    def aheads(self, bits):
        """Return for each step the set of steps that precede it or race with it and stand ahead of it."""
        found = list(self.befores)
        for first, second in self.ordered_pairs(bits):
            found[second] = found[second] | (1 << first)
        return found

    def least_order_of(self, bits):
        """Return the least order of a class; None if a cycle comes about, so that it is no class."""
        aheads = self.aheads(bits)
        order = []
        done = 0
        while len(order) < len(aheads):
            free = [step for step, ahead in enumerate(aheads) if not (done >> step) & 1 and not ahead & ~done]
            if len(free) == 0:
                return None
            order.append(free[0])
            done = done | (1 << free[0])
        return tuple(order)

    def flippable_bits(self, bits):
        """Return the bits of the pairs that can be flipped in a class.

        A cycle comes about by a flip exactly if a third step stands between
        both steps of the pair: behind the first and ahead of the second one.
        """
        aheads = self.aheads(bits)
        between = [0] * len(aheads)
        for second in self.least_order_of(bits):
            for first in members(aheads[second]):
                between[second] = between[second] | between[first] | aheads[first]
        found = 0
        for at, (first, second) in enumerate(self.ordered_pairs(bits)):
            if not (between[second] >> first) & 1:
                found = found | (1 << at)
        return found

    def all_bits(self):
        """List the bits of all classes; flips lead from the class () to each one."""
        found = {0: True}
        waiting = [0]
        while len(waiting) > 0:
            bits = waiting.pop()
            for at in members(self.flippable_bits(bits)):
                flipped = bits ^ (1 << at)
                if flipped not in found:
                    found[flipped] = True
                    waiting.append(flipped)
            if len(found) > MOST_CLASSES:
                raise TooMany(MOST_CLASSES)
        return list(found)


def members(bits):
    """List the numbers of the bits that are set."""
    return [at for at in range(bits.bit_length()) if (bits >> at) & 1]


def racing_of(task):
    """Return the racing pairs of a task without guards; raise Guarded if it has one."""
    refuse_guards(task)
    return Racing(task.layout.befores, races(task))


def class_bits(racing, value):
    """Return the bits of a class; raise NoClass if any value is none."""
    bits = racing.bits_of(value)
    if bits is None:
        raise NoClass(value)
    return bits
