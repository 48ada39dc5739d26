"""What several tests need: a book, many values of all kinds, and a way to see errors."""

import functools
import random

from ordersopen.functions import Book, Function
from ordersopen.tasks import Task

BOOK = Book(
    Function("f", 1, reads=("x",), stores=("y",)),
    Function("g", 2),
    Function("h", 3, stores=("x", "y")),
    Function("k"),
)

# The functions of BOOK, and two that read and store the same places.
WIDE = Book(
    *(BOOK[name] for name in BOOK.names),
    Function("m", 1, reads=("x", "y"), stores=("x", "y")),
    Function("n", reads=("y",), stores=("y",)),
)


def told(call, *given, **named):
    """The name and the fields of the error that a call raises; None if it raises none."""
    try:
        call(*given, **named)
    except Exception as error:
        return type(error).__name__, dict(vars(error))
    return None


def nested(kind, depth):
    value = kind()
    for _ in range(depth - 1):
        value = kind([value])
    return value


def any_values():
    """New values of all kinds that [2] calls "any value", the largest ones too."""
    return [
        None, True, False, 0, 1, 2, -1, 6, 999999, 1000000, 10 ** 39, -(10 ** 39),
        "", " ", "\n", "f", "x", "f\n", "F", "1", "()", "(", "f" * 8, "f" * 9, "~" * 2000,
        [], (), [[]], ((),), ([],), [()], [0], (0,), (1,), (2,), (-1,), (True,), (False,), (None,), ("0",), ((0,),),
        (0, 0), (0, True), [0, 0], [1], [True], ["f"], ("f",), [("f",)], (["f"],), ("f", "g"), ["f", "g"],
        ["read", "x"], ("read", "x"), ("read", "X"), ("read",), ("value", "f", ()), (None, None), (1, (1, [1])),
        nested(list, 80), nested(tuple, 80), [0] * 3000, (0,) * 3000, ["x"] * 3000,
    ]


# What the document says of steps, orders, results and classes, worked out from its words alone, slowly, with nothing
# of the package but a book's functions. `rows` is a list as of `steps`, an order any tuple of the numbers of steps.

PARTS = {"read": 2, "step": 4, "store": 2, "op": 2, "then": 1, "and": 1, "or": 1, "choose": 1}


def operands_of(node):
    if isinstance(node, int):
        return ()
    return node[2] if node[0] == "call" else node[PARTS[node[0]]:]


def node_of(expression, path):
    for at in path:
        expression = operands_of(expression)[at]
    return expression


def rows_of(book, node, path=()):
    """[8]: (kind, path, reads, stores) of the steps of a node and its operands."""
    rows = [row for at, operand in enumerate(operands_of(node)) for row in rows_of(book, operand, (*path, at))]
    form = node if isinstance(node, int) else node[0]
    if form in ("read", "step"):
        rows.append(("read", path, (node[1],), ()))
    if form in ("store", "step"):
        rows.append(("store", path, (), (node[1],)))
    if form == "call":
        rows.append(("call", path, book[node[1]].reads, book[node[1]].stores))
    return rows


def relation_of(task, rows, one, other):
    """[9]: "ahead" if the first step precedes the second one, "behind", "exclude" or "open"."""
    if one > other:
        return {"ahead": "behind", "behind": "ahead"}.get(relation_of(task, rows, other, one), "exclude and open")
    ours, theirs = rows[one][1], rows[other][1]
    same = 0
    while same < min(len(ours), len(theirs)) and ours[same] == theirs[same]:
        same += 1
    if same == len(theirs):
        return "ahead"
    node = node_of(task.expression, ours[:same])
    if node[0] == "choose" and ours[same] > 0:
        return "exclude"
    in_order = node[0] in ("then", "and", "or", "choose") or ours[:same] in task.points
    return "ahead" if in_order else "open"


def pairs_of(many):
    return [(one, other) for one in range(many) for other in range(one + 1, many)]


def races_of(task):
    """[9]: the racing pairs, ascending."""
    rows = rows_of(task.book, task.expression)
    found = []
    for one, other in pairs_of(len(rows)):
        reads, stores = (set(rows[one][at]) for at in (2, 3))
        others, theirs = (set(rows[other][at]) for at in (2, 3))
        if relation_of(task, rows, one, other) == "open" and (stores & (others | theirs) or theirs & reads):
            found.append((one, other))
    return found


def aheads_of(task):
    """[9]: for each step the set of those that precede it."""
    rows = rows_of(task.book, task.expression)
    return [{one for one in range(other) if relation_of(task, rows, one, other) == "ahead"}
            for other in range(len(rows))]


def extended(aheads, order=()):
    """All tuples of all steps, beginning so, in which each step stands behind those of its set; ascending."""
    if len(order) == len(aheads):
        yield order
    for step, ahead in enumerate(aheads):
        if step not in order and ahead <= set(order):
            yield from extended(aheads, (*order, step))


def orders_of(task):
    """[10]: all orders, ascending."""
    return list(extended(aheads_of(task)))


def done_in(task, order):
    """[11]: the result of an order."""
    rows = rows_of(task.book, task.expression)
    contents, known = {}, {}

    def content(place):
        return contents.get(place, ("first", place))

    def value(path):
        node = node_of(task.expression, path)
        if isinstance(node, int):
            return node
        if node[0] == "op":
            return node[1], value((*path, 0)), value((*path, 1))
        if node[0] in ("then", "store"):
            return value((*path, 1 if node[0] == "then" else 0))
        return known[path]

    for step in order:
        kind, path, reads, stores = rows[step]
        node = node_of(task.expression, path)
        if kind == "read":
            known[path] = content(node[1])
        elif kind == "call":
            inputs = (*(value((*path, at)) for at in range(len(node[2]))), *map(content, reads))
            known[path] = ("value", node[1], inputs)
            contents.update({place: ("left", node[1], place, inputs) for place in stores})
        elif node[0] == "store":
            contents[node[1]] = value((*path, 0))
        else:
            contents[node[1]] = ("+" if node[2] == 1 else "-", known[path], 1)
            known[path] = known[path] if node[3] == "after" else contents[node[1]]
    changed = [(place, content(place)) for place in sorted(contents) if content(place) != ("first", place)]
    return value(()), tuple(changed)


def parts_of(node, path, rows):
    """[12]: the set of the parts of a node's value."""
    if isinstance(node, int):
        return set()
    if node[0] in ("read", "call", "step"):
        return {min(at for at, row in enumerate(rows) if row[1] == path)}
    within = [parts_of(operand, (*path, at), rows) for at, operand in enumerate(operands_of(node))]
    return within[1] if node[0] == "then" else set().union(*within)


def made_of(task, order, step):
    """[12]: the set of the steps of which a step is made, if it is live."""
    rows = rows_of(task.book, task.expression)
    kind, path, reads, stores = rows[step]
    node = node_of(task.expression, path)
    below = [parts_of(operand, (*path, at), rows) for at, operand in enumerate(operands_of(node))]
    if kind == "store" and node[0] == "step":
        return {step - 1}
    return set().union(*below, {source_of(rows, order, step, place) for place in reads} - {None})


def source_of(rows, order, step, place):
    """[12]: the source of a reading."""
    found = [other for other in order[:order.index(step)] if place in rows[other][3]]
    return found[-1] if found else None


def trace_of(task, order):
    """[12]: the sources of all readings, the live steps, and the trace."""
    rows = rows_of(task.book, task.expression)
    stored = sorted({place for row in rows for place in row[3]})
    lasts = {place: [step for step in order if place in rows[step][3]][-1] for place in stored}
    live = parts_of(task.expression, (), rows) | set(lasts.values())
    for _ in rows:
        live |= {other for step in live for other in made_of(task, order, step)}
    froms = {(step, place): source_of(rows, order, step, place)
             for step in range(len(rows)) for place in rows[step][2]}
    return froms, sorted(live), (tuple(sorted(lasts.items())), tuple(
        (reading, froms[reading]) for reading in sorted(froms) if reading[0] in live))


def class_in(pairs, order):
    """[13]: the class of an order."""
    return tuple(pair for pair in pairs if order.index(pair[1]) < order.index(pair[0]))


def classes_in(task):
    """[13]: a dict from all classes to the list of their orders, ascending, by all orders."""
    pairs = races_of(task)
    found = {}
    for order in orders_of(task):
        found.setdefault(class_in(pairs, order), []).append(order)
    return found


def is_without_cycle(task, flips):
    """[13]: whether no cycle comes about, for any set of racing pairs."""
    aheads = [set(ahead) for ahead in aheads_of(task)]
    for one, other in races_of(task):
        if (one, other) in flips:
            aheads[one].add(other)
        else:
            aheads[other].add(one)
    while True:
        wider = [ahead.union(*(aheads[step] for step in ahead)) for ahead in aheads]
        if wider == aheads:
            return all(step not in ahead for step, ahead in enumerate(aheads))
        aheads = wider


def drawn(draw, most, guards=False):
    """An expression of WIDE with at most so many steps, by a random.Random."""
    if most == 0:
        return draw.choice([0, 1, 7, ("op", "+", 1, 2)])
    places = ("x", "y")
    kinds = ["read", "store", "step", "op", "op", "op", "then", *WIDE.names, 1]
    kind = draw.choice(kinds + ["and", "or", "choose", "choose"] if guards else kinds)
    if kind == 1:
        return draw.randrange(3)
    if kind == "step" and most == 1 or kind == "read":
        return ("read", draw.choice(places))
    if kind == "step":
        return ("step", draw.choice(places), draw.choice((1, -1)), draw.choice(("before", "after")))
    if kind == "store":
        return ("store", draw.choice(places), drawn(draw, most - 1, guards))
    if kind in WIDE:
        below = split(draw, most - 1, WIDE[kind].arguments)
        return ("call", kind, tuple(drawn(draw, many, guards) for many in below))
    below = [drawn(draw, many, guards) for many in split(draw, most, 3 if kind == "choose" else 2)]
    return ("op", draw.choice("+-*<"), *below) if kind == "op" else (kind, *below)


def split(draw, most, many):
    found = [0] * many
    for _ in range(most if many else 0):
        found[draw.randrange(many)] += 1
    return found


def drawn_tasks(seed, many, most, guards=False):
    """So many different tasks with two steps or more, some of their open nodes as points."""
    draw = random.Random(seed)
    found = []
    while len(found) < many:
        task = Task(WIDE, drawn(draw, most, guards))
        task = task.with_points(*[path for path in task.open_nodes() if draw.random() < 0.2])
        if len(task) > 1 and task not in found:
            found.append(task)
    return found


def in_parallel(*rows):
    """Strings of letters as an expression: x reads x, X stores a new number in it; each string in order by itself."""
    numbers = iter(range(1, 1000))
    found = []
    for row in rows:
        letters = [("read", one) if one.islower() else ("store", one.lower(), next(numbers)) for one in row]
        found.append(functools.reduce(lambda below, one: ("then", one, below), letters[::-1]))
    return functools.reduce(lambda one, other: ("op", "+", one, other), found)


# Expressions with just so many classes, as their orders show. The last one has sixteen steps and 20 * 5 * 5 classes.
CLASSES_500 = in_parallel("YxXYxX", "XyXyX", "Y")
CLASSES_501 = in_parallel("XYxYX", "xyxXxy", "X")
CLASSES_SIXTEEN = in_parallel("XXX", "XXX", "yyyy", "Y", "zzzz", "Z")
