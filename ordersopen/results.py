"""What comes of an order: the result, and the trace of where it came from."""

from ordersopen.doing import ending_of, shown
from ordersopen.endings import least_orders
from ordersopen.orders import refuse_no_order
from ordersopen.terms import Terms
from ordersopen.values import is_integer


def result(task, order):
    """Return (value, contents) of an order."""
    refuse_no_order(task, order)
    terms = Terms()
    return shown(terms, ending_of(task.layout, order, terms))


def sources(task, order):
    """Return a dict from all readings, ascending, to their sources."""
    refuse_no_order(task, order)
    return followed(task.layout, order)[0]


def live_steps(task, order):
    """List the live steps, ascending."""
    refuse_no_order(task, order)
    froms, lasts = followed(task.layout, order)
    return living(task.layout, froms, lasts)


def trace(task, order):
    """Return (lasts, sources): the last stores of all places, and the sources of the live readings."""
    refuse_no_order(task, order)
    froms, lasts = followed(task.layout, order)
    live = living(task.layout, froms, lasts)
    rows = [(reading, source) for reading, source in froms.items() if reading[0] in live]
    return tuple(sorted(lasts.items())), tuple(rows)


def all_results(task):
    """List (result, order) for all results, each with its least order, ascending by these orders."""
    terms = Terms()
    return [(shown(terms, ending), order) for ending, order in least_orders(task, terms).items()]


def followed(layout, order):
    """Return the sources of all readings, ascending, and the last stores of the places that are stored."""
    found = {}
    lasts = {}
    for step in order:
        kind, path, reads, stores = layout.steps[step]
        for place in reads:
            found[(step, place)] = lasts.get(place, None)
        for place in stores:
            lasts[place] = step
    return {reading: found[reading] for reading in sorted(found)}, lasts


def living(layout, froms, lasts):
    """List the live steps, ascending, by the sources of all readings and the last stores."""
    live = {}
    waiting = [*parts_of(layout.root), *list(lasts.values())]
    while len(waiting) > 0:
        step = waiting.pop()
        if step not in live:
            live[step] = True
            waiting.extend(made_of(layout, froms, step))
    return sorted(live)


def parts_of(span):
    """List the parts of the value of a node."""
    form = span.form
    if is_integer(form):
        return []
    if form[0] == "op":
        return [*parts_of(span.below[0]), *parts_of(span.below[1])]
    if form[0] == "then":
        return parts_of(span.below[1])
    if form[0] == "store":
        return parts_of(span.below[0])
    return [span.own[0]]


def made_of(layout, froms, step):
    """List the steps that a live step is made of."""
    span = layout.owners[step]
    kind, path, reads, stores = layout.steps[step]
    if kind == "store":
        # The store of a `step` node stands behind its read and has no operand.
        return [span.own[0]] if step != span.own[0] else parts_of(span.below[0])
    found = [froms[(step, place)] for place in reads if froms[(step, place)] is not None]
    for argument in span.below:
        found.extend(parts_of(argument))
    return found
