"""The steps of a task: what they read and store, which precede each other, and which race."""

from ordersopen.errors import NoStep
from ordersopen.values import is_integer


def steps(task):
    """List (kind, path, reads, stores) for all steps by their numbers."""
    return list(task.layout.steps)


def precedes(task, one, other):
    """Tell whether the first step precedes the second one."""
    for step in (one, other):
        if not is_integer(step) or not 0 <= step < len(task):
            raise NoStep(step)
    return (task.layout.befores[other] >> one) & 1 == 1


def races(task):
    """List the racing pairs (one, other) of steps, one < other, ascending."""
    many = len(task)
    return [(one, other) for one in range(many) for other in range(one + 1, many) if is_race(task.layout, one, other)]


def is_race(layout, one, other):
    """Tell whether two steps race."""
    return (layout.besides[one] >> other) & 1 == 1 and collide(layout.steps[one], layout.steps[other])


def collide(one, other):
    """Tell whether there is a place that one of two steps stores and the other one reads or stores."""
    return touches(one[3], other) or touches(other[3], one)


def touches(stores, step):
    """Tell whether a step reads or stores one of these places."""
    return any([place in step[2] or place in step[3] for place in stores])
