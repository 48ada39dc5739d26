"""Whether all orders of a task without guards agree, and the points at which an order must be fixed."""

from ordersopen.endings import class_endings
from ordersopen.errors import NoNode, TooMany
from ordersopen.expressions import is_open_path
from ordersopen.flips import Racing, members, racing_of
from ordersopen.layout import refuse_guards
from ordersopen.results import followed, living
from ordersopen.terms import Terms

MOST_OPEN = 8


def agree(task):
    """Tell whether all orders have one result."""
    return disagreement(task) is None


def are_steady(task):
    """Tell whether all orders have one trace."""
    return needed(task) == ()


def disagreement(task):
    """Return (flips, pair), a class and a pair whose flip changes the result; None if all orders agree."""
    racing = racing_of(task)
    endings = class_endings(task, racing, Terms())
    for bits, ending in endings.items():
        for at in members(racing.flippable_bits(bits)):
            if endings[bits ^ (1 << at)] != ending:
                return racing.flips_of(bits), racing.pairs[at]
    return None


def needed(task):
    """Return the ascending tuple of the needed points."""
    refuse_guards(task)
    return tuple(sorted(needs(task.layout)))


def need_order(task, path):
    """Return an order with another trace than the left-first one, if all other open nodes are points."""
    refuse_guards(task)
    found = needs(task.layout)
    if not is_open_path(task.expression, path) or path not in found:
        raise NoNode(path)
    one, other = found[path]
    others = [point for point in task.open_nodes() if point != path]
    fixed = task.with_points(*others)
    ahead = members(fixed.layout.befores[one] | fixed.layout.befores[other])
    behind = [step for step in range(len(task)) if step not in (*ahead, one, other)]
    return (*ahead, one, other, *behind)


def needs(layout):
    """Return a dict from the needed points to pairs (one, other) of steps that are open there.

    Each order in which `one` stands directly ahead of `other` has another
    trace than the left-first one.
    """
    froms, lasts = followed(layout, tuple(range(len(layout.steps))))
    live = living(layout, froms, lasts)
    pairs = []
    for (step, place), source in froms.items():
        if step in live:
            pairs.extend(reading_pairs(step, source, storing(layout, place)))
    for place, last in lasts.items():
        pairs.extend([(last, other) for other in storing(layout, place)])
    return {meeting(layout, one, other): (one, other) for one, other in pairs if (layout.besides[one] >> other) & 1}


def storing(layout, place):
    """List the steps that store a place."""
    return [step for step, row in enumerate(layout.steps) if place in row[3]]


def reading_pairs(step, source, stores):
    """List the pairs of a reading of a place with these stores; `one` of each directly ahead changes its source.

    The reading gets a store as its source that was not, or the source comes
    behind it, or another store comes between the source and it.
    """
    pairs = [(step, other) if other == source else (other, step) for other in stores]
    if source is not None:
        pairs.extend([(source, other) for other in stores if other < step])
    return pairs


def meeting(layout, one, other):
    """Return the path of the least node in which two steps lie."""
    ours, theirs = layout.owners[one].path, layout.owners[other].path
    same = 0
    while ours[:same + 1] == theirs[:same + 1]:
        same += 1
    return ours[:same]


def fewest(task):
    """Return the fewest points with which all orders agree, the least ascending tuple of several."""
    refuse_guards(task)
    nodes = task.open_nodes()
    if len(nodes) > MOST_OPEN:
        raise TooMany(MOST_OPEN)
    racing = racing_of(task)
    rows = [((), wrong_classes(task, racing))]
    while True:
        for chosen, wrong in rows:
            if len(wrong) == 0:
                return chosen
        rows = [row for chosen, wrong in rows for row in with_one_more(task, racing, chosen, wrong)]


def wrong_classes(task, racing):
    """List the bits of the classes whose result is not that of the class ()."""
    endings = class_endings(task, racing, Terms())
    return [bits for bits, ending in endings.items() if ending != endings[0]]


def with_one_more(task, racing, chosen, wrong):
    """List the tuples of points that have one more node behind these, with the wrong classes that remain then."""
    more = [(*chosen, path) for path in task.open_nodes() if len(chosen) == 0 or path > chosen[-1]]
    return [(points, remaining(task, racing, points, wrong)) for points in more]


def remaining(task, racing, points, wrong):
    """List those of some classes that remain with these points, too."""
    fixed = Racing(task.with_points(*points).layout.befores, racing.pairs)
    return [bits for bits in wrong if fixed.least_order_of(bits) is not None]
