"""What several tests need: a book, many values of all kinds, and a way to see errors."""

import copy
import functools
import itertools
import random

from ordersopen.functions import Book, Function
from ordersopen.tasks import Task

BOOK = Book(
    Function("f", 1, reads=("x",), stores=("y",)),
    Function("g", 2),
    Function("h", 3, stores=("x", "y")),
    Function("k"),
)

# The functions of BOOK, and two that read and store the same places.
WIDE = Book(
    *(BOOK[name] for name in BOOK.names),
    Function("m", 1, reads=("x", "y"), stores=("x", "y")),
    Function("n", reads=("y",), stores=("y",)),
)


def told(call, *given, **named):
    """The name and the fields of the error that a call raises; None if it raises none."""
    try:
        call(*given, **named)
    except Exception as error:
        return type(error).__name__, dict(vars(error))
    return None


def nested(kind, depth):
    value = kind()
    for _ in range(depth - 1):
        value = kind([value])
    return value


def any_values():
    """New values of all kinds that [2] calls "any value", the largest ones too."""
    return [
        None, True, False, 0, 1, 2, -1, 6, 999999, 1000000, 10 ** 39, -(10 ** 39),
        "", " ", "\n", "f", "x", "f\n", "F", "1", "()", "(", "f" * 8, "f" * 9, "~" * 2000,
        [], (), [[]], ((),), ([],), [()], [0], (0,), (1,), (2,), (-1,), (True,), (False,), (None,), ("0",), ((0,),),
        (0, 0), (0, True), [0, 0], [1], [True], ["f"], ("f",), [("f",)], (["f"],), ("f", "g"), ["f", "g"],
        ["read", "x"], ("read", "x"), ("read", "X"), ("read",), ("value", "f", ()), (None, None), (1, (1, [1])),
        nested(list, 80), nested(tuple, 80), [0] * 3000, (0,) * 3000, ["x"] * 3000,
    ]


# What the document says of steps, orders, results and classes, worked out from its words alone, slowly, with nothing
# of the package but a book's functions. `rows` is a list as of `steps`, an order any tuple of the numbers of steps.

PARTS = {"read": 2, "step": 4, "store": 2, "op": 2, "then": 1, "and": 1, "or": 1, "choose": 1}


def operands_of(node):
    if isinstance(node, int):
        return ()
    return node[2] if node[0] == "call" else node[PARTS[node[0]]:]


def node_of(expression, path):
    for at in path:
        expression = operands_of(expression)[at]
    return expression


def rows_of(book, node, path=()):
    """[8]: (kind, path, reads, stores) of the steps of a node and its operands."""
    rows = [row for at, operand in enumerate(operands_of(node)) for row in rows_of(book, operand, (*path, at))]
    form = node if isinstance(node, int) else node[0]
    if form in ("read", "step"):
        rows.append(("read", path, (node[1],), ()))
    if form in ("store", "step"):
        rows.append(("store", path, (), (node[1],)))
    if form == "call":
        rows.append(("call", path, book[node[1]].reads, book[node[1]].stores))
    return rows


def relation_of(task, rows, one, other):
    """[9]: "ahead" if the first step precedes the second one, "behind", "exclude" or "open"."""
    if one > other:
        return {"ahead": "behind", "behind": "ahead"}.get(relation_of(task, rows, other, one), "exclude and open")
    ours, theirs = rows[one][1], rows[other][1]
    same = 0
    while same < min(len(ours), len(theirs)) and ours[same] == theirs[same]:
        same += 1
    if same == len(theirs):
        return "ahead"
    node = node_of(task.expression, ours[:same])
    if node[0] == "choose" and ours[same] > 0:
        return "exclude"
    in_order = node[0] in ("then", "and", "or", "choose") or ours[:same] in task.points
    return "ahead" if in_order else "open"


def pairs_of(many):
    return [(one, other) for one in range(many) for other in range(one + 1, many)]


def races_of(task):
    """[9]: the racing pairs, ascending."""
    rows = rows_of(task.book, task.expression)
    found = []
    for one, other in pairs_of(len(rows)):
        reads, stores = (set(rows[one][at]) for at in (2, 3))
        others, theirs = (set(rows[other][at]) for at in (2, 3))
        if relation_of(task, rows, one, other) == "open" and (stores & (others | theirs) or theirs & reads):
            found.append((one, other))
    return found


def aheads_of(task):
    """[9]: for each step the set of those that precede it."""
    rows = rows_of(task.book, task.expression)
    return [{one for one in range(other) if relation_of(task, rows, one, other) == "ahead"}
            for other in range(len(rows))]


def extended(aheads, order=()):
    """All tuples of all steps, beginning so, in which each step stands behind those of its set; ascending."""
    if len(order) == len(aheads):
        yield order
    for step, ahead in enumerate(aheads):
        if step not in order and ahead <= set(order):
            yield from extended(aheads, (*order, step))


def orders_of(task):
    """[10]: all orders, ascending."""
    return list(extended(aheads_of(task)))


def done_in(task, order):
    """[11]: the result of an order."""
    rows = rows_of(task.book, task.expression)
    contents, known = {}, {}

    def content(place):
        return contents.get(place, ("first", place))

    def value(path):
        node = node_of(task.expression, path)
        if isinstance(node, int):
            return node
        if node[0] == "op":
            return node[1], value((*path, 0)), value((*path, 1))
        if node[0] in ("then", "store"):
            return value((*path, 1 if node[0] == "then" else 0))
        return known[path]

    for step in order:
        kind, path, reads, stores = rows[step]
        node = node_of(task.expression, path)
        if kind == "read":
            known[path] = content(node[1])
        elif kind == "call":
            inputs = (*(value((*path, at)) for at in range(len(node[2]))), *map(content, reads))
            known[path] = ("value", node[1], inputs)
            contents.update({place: ("left", node[1], place, inputs) for place in stores})
        elif node[0] == "store":
            contents[node[1]] = value((*path, 0))
        else:
            contents[node[1]] = ("+" if node[2] == 1 else "-", known[path], 1)
            known[path] = known[path] if node[3] == "after" else contents[node[1]]
    changed = [(place, content(place)) for place in sorted(contents) if content(place) != ("first", place)]
    return value(()), tuple(changed)


def parts_of(node, path, rows):
    """[12]: the set of the parts of a node's value."""
    if isinstance(node, int):
        return set()
    if node[0] in ("read", "call", "step"):
        return {min(at for at, row in enumerate(rows) if row[1] == path)}
    within = [parts_of(operand, (*path, at), rows) for at, operand in enumerate(operands_of(node))]
    return within[1] if node[0] == "then" else set().union(*within)


def made_of(task, order, step):
    """[12]: the set of the steps of which a step is made, if it is live."""
    rows = rows_of(task.book, task.expression)
    kind, path, reads, stores = rows[step]
    node = node_of(task.expression, path)
    below = [parts_of(operand, (*path, at), rows) for at, operand in enumerate(operands_of(node))]
    if kind == "store" and node[0] == "step":
        return {step - 1}
    return set().union(*below, {source_of(rows, order, step, place) for place in reads} - {None})


def source_of(rows, order, step, place):
    """[12]: the source of a reading."""
    found = [other for other in order[:order.index(step)] if place in rows[other][3]]
    return found[-1] if found else None


def trace_of(task, order):
    """[12]: the sources of all readings, the live steps, and the trace."""
    rows = rows_of(task.book, task.expression)
    stored = sorted({place for row in rows for place in row[3]})
    lasts = {place: [step for step in order if place in rows[step][3]][-1] for place in stored}
    live = parts_of(task.expression, (), rows) | set(lasts.values())
    for _ in rows:
        live |= {other for step in live for other in made_of(task, order, step)}
    froms = {(step, place): source_of(rows, order, step, place)
             for step in range(len(rows)) for place in rows[step][2]}
    return froms, sorted(live), (tuple(sorted(lasts.items())), tuple(
        (reading, froms[reading]) for reading in sorted(froms) if reading[0] in live))


def class_in(pairs, order):
    """[13]: the class of an order."""
    return tuple(pair for pair in pairs if order.index(pair[1]) < order.index(pair[0]))


def classes_in(task):
    """[13]: a dict from all classes to the list of their orders, ascending, by all orders."""
    pairs = races_of(task)
    found = {}
    for order in orders_of(task):
        found.setdefault(class_in(pairs, order), []).append(order)
    return found


def is_without_cycle(task, flips):
    """[13]: whether no cycle comes about, for any set of racing pairs."""
    aheads = [set(ahead) for ahead in aheads_of(task)]
    for one, other in races_of(task):
        if (one, other) in flips:
            aheads[one].add(other)
        else:
            aheads[other].add(one)
    while True:
        wider = [ahead.union(*(aheads[step] for step in ahead)) for ahead in aheads]
        if wider == aheads:
            return all(step not in ahead for step, ahead in enumerate(aheads))
        aheads = wider


def drawn(draw, most, guards=False):
    """An expression of WIDE with at most so many steps, by a random.Random."""
    if most == 0:
        return draw.choice([0, 1, 7, ("op", "+", 1, 2)])
    places = ("x", "y")
    kinds = ["read", "store", "step", "op", "op", "op", "then", *WIDE.names, 1]
    kind = draw.choice(kinds + ["and", "or", "choose", "choose"] if guards else kinds)
    if kind == 1:
        return draw.randrange(3)
    if kind == "step" and most == 1 or kind == "read":
        return ("read", draw.choice(places))
    if kind == "step":
        return ("step", draw.choice(places), draw.choice((1, -1)), draw.choice(("before", "after")))
    if kind == "store":
        return ("store", draw.choice(places), drawn(draw, most - 1, guards))
    if kind in WIDE:
        below = split(draw, most - 1, WIDE[kind].arguments)
        return ("call", kind, tuple(drawn(draw, many, guards) for many in below))
    below = [drawn(draw, many, guards) for many in split(draw, most, 3 if kind == "choose" else 2)]
    return ("op", draw.choice("+-*<"), *below) if kind == "op" else (kind, *below)


def split(draw, most, many):
    found = [0] * many
    for _ in range(most if many else 0):
        found[draw.randrange(many)] += 1
    return found


def drawn_tasks(seed, many, most, guards=False):
    """So many different tasks with two steps or more, some of their open nodes as points."""
    draw = random.Random(seed)
    found = []
    while len(found) < many:
        task = Task(WIDE, drawn(draw, most, guards))
        task = task.with_points(*[path for path in task.open_nodes() if draw.random() < 0.2])
        if len(task) > 1 and task not in found:
            found.append(task)
    return found


def in_parallel(*rows):
    """Strings of letters as an expression: x reads x, X stores a new number in it; each string in order by itself."""
    numbers = iter(range(1, 1000))
    found = []
    for row in rows:
        letters = [("read", one) if one.islower() else ("store", one.lower(), next(numbers)) for one in row]
        found.append(functools.reduce(lambda below, one: ("then", one, below), letters[::-1]))
    return functools.reduce(lambda one, other: ("op", "+", one, other), found)


# Expressions with just so many classes, as their orders show. The last one has sixteen steps and 20 * 5 * 5 classes.
CLASSES_500 = in_parallel("YxXYxX", "XyXyX", "Y")
CLASSES_501 = in_parallel("XYxYX", "xyxXxy", "X")
CLASSES_SIXTEEN = in_parallel("XXX", "XXX", "yyyy", "Y", "zzzz", "Z")


# The same for runs, cases and clashes of tasks with guards: everything is worked out anew from the steps that are done.

class Unknown(Exception):
    """A term is asked whose truth is not given; its text is the argument."""


def text_in(term):
    """[26]: the text of a term."""
    if isinstance(term, int):
        return str(term)
    if term[0] == "first":
        return term[1]
    if term[0] in ("value", "left"):
        return f"{'.'.join(term[1:-1])}({', '.join(map(text_in, term[-1]))})"
    return f"({text_in(term[1])} {term[0]} {text_in(term[2])})"


class Seen:
    """[19], [20]: what is to be seen of a run after these steps, if these truths are known."""

    def __init__(self, task, order, truths):
        self.task, self.truths = task, truths
        self.rows = rows_of(task.book, task.expression)
        self.nodes = {path: node_of(task.expression, path) for path in task.nodes()}
        self.guards = [path for path in self.nodes if self.form(path) in ("and", "or", "choose")]
        self.order, self.contents, self.read = (), {}, {}
        self.look()
        for step in order:
            self.go_on(step)

    def go_on(self, step):
        if self.asking:
            raise Unknown(self.asking[0])
        assert step in self.ready, (str(self.task), self.order, step)
        self.do(step)
        self.order += (step,)
        self.look()

    def after(self, step):
        """The same after one step more."""
        more = copy.copy(self)
        more.contents, more.read = dict(self.contents), dict(self.read)
        more.go_on(step)
        return more

    def look(self):
        """Work out what is asked and ready, and the truths that were used."""
        self.completed = {}
        self.asking = [text_in(self.value((*path, 0))) for path in self.guards
                       if self.starts(path) and self.complete((*path, 0)) and self.chosen(path) is None]
        self.ready = [] if self.asking else [step for step in range(len(self.rows)) if self.is_ready(step)]
        self.used = {}
        for path in self.guards:
            if self.starts(path) and self.complete((*path, 0)) and self.chosen(path) is not None:
                term = self.value((*path, 0))
                if not isinstance(term, int):
                    self.used[text_in(term)] = self.truths[text_in(term)]
        self.is_over = not self.asking and not self.ready

    def form(self, path):
        return "integer" if isinstance(self.nodes[path], int) else self.nodes[path][0]

    def below(self, path):
        return [(*path, at) for at in range(len(operands_of(self.nodes[path])))]

    def starts(self, path):
        for depth, at in enumerate(path):
            above = path[:depth]
            form = self.form(above)
            if form == "then" or above in self.task.points:
                if not all(self.complete((*above, less)) for less in range(at)):
                    return False
            if form in ("and", "or", "choose") and at > 0:
                if not self.starts(above) or not self.complete((*above, 0)) or self.chosen(above) != at:
                    return False
        return True

    def complete(self, path):
        if path not in self.completed:
            self.completed[path] = self.work_out_complete(path)
        return self.completed[path]

    def work_out_complete(self, path):
        if not self.starts(path):
            return False
        if self.form(path) in ("and", "or", "choose"):
            if not self.complete((*path, 0)) or self.chosen(path) is None:
                return False
            return self.chosen(path) == 0 or self.complete((*path, self.chosen(path)))
        own = [step for step, row in enumerate(self.rows) if row[1] == path]
        return all(self.complete(one) for one in self.below(path)) and all(step in self.order for step in own)

    def chosen(self, path):
        """The index of the branch that a guard chose, 0 if it chose none, None if it is not decided."""
        term = self.value((*path, 0))
        truth = term != 0 if isinstance(term, int) else self.truths.get(text_in(term))
        if truth is None:
            return None
        return {"and": (0, 1), "or": (1, 0), "choose": (2, 1)}[self.form(path)][truth]

    def is_ready(self, step):
        path = self.rows[step][1]
        own = [other for other, row in enumerate(self.rows) if row[1] == path]
        return (step not in self.order and self.starts(path) and all(self.complete(one) for one in self.below(path))
                and all(other in self.order for other in own if other < step))

    def content(self, place):
        return self.contents.get(place, ("first", place))

    def value(self, path):
        """The value of a node that is complete."""
        node = self.nodes[path]
        form = self.form(path)
        if form == "integer":
            return node
        if form == "op":
            return node[1], self.value((*path, 0)), self.value((*path, 1))
        if form in ("then", "store"):
            return self.value((*path, 1 if form == "then" else 0))
        if form in ("and", "or", "choose"):
            return self.value((*path, self.chosen(path)))
        step = min(at for at, row in enumerate(self.rows) if row[1] == path)
        if form == "step" and node[3] == "before":
            return "+" if node[2] == 1 else "-", self.read[step], 1
        return self.read[step]

    def do(self, step):
        kind, path, reads, stores = self.rows[step]
        node = self.nodes[path]
        if kind == "read":
            self.read[step] = self.content(node[1])
        elif kind == "call":
            inputs = (*map(self.value, self.below(path)), *map(self.content, reads))
            self.read[step] = ("value", node[1], inputs)
            self.contents.update({place: ("left", node[1], place, inputs) for place in stores})
        elif node[0] == "store":
            self.contents[node[1]] = self.value((*path, 0))
        else:
            self.contents[node[1]] = ("+" if node[2] == 1 else "-", self.read[step - 1], 1)

    def changed(self):
        return tuple((place, term) for place, term in sorted(self.contents.items()) if term != ("first", place))

    def result(self):
        return self.value(()), self.changed()

    def state(self):
        """[23]."""
        return tuple((step, self.read.get(step, ())) for step in sorted(self.order)), self.changed()


def prefixes_in(task, truths, seen=None):
    """All (order, Seen) of the prefixes of runs under these truths, ascending; Unknown if another truth is asked."""
    seen = seen or Seen(task, (), truths)
    if seen.asking:
        raise Unknown(seen.asking[0])
    found = [(seen.order, seen)]
    for step in seen.ready:
        found += prefixes_in(task, truths, seen.after(step))
    return found


def runs_in(task, truths):
    """[20]: all (order, Seen) of the runs under these truths, ascending."""
    return [(order, seen) for order, seen in prefixes_in(task, truths) if seen.is_over]


def texts_in(task, truths=None):
    """The texts of all terms that are asked in any run under any truths."""
    truths = truths or {}
    try:
        prefixes_in(task, truths)
        return set()
    except Unknown as unknown:
        text = unknown.args[0]
    return {text}.union(*(texts_in(task, {**truths, text: truth}) for truth in (False, True)))


def cases_in(task):
    """[21]: all cases, ascending, by all truths of all terms that can be asked."""
    texts = sorted(texts_in(task))
    found = set()
    for truths in itertools.product((False, True), repeat=len(texts)):
        known = dict(zip(texts, truths))
        asked = {text for order, seen in runs_in(task, known) for text in seen.used}
        found.add(tuple((text, known[text]) for text in sorted(asked)))
    return sorted(found)


def is_clash_in(task, truths, prefix, one, other):
    """[22]: whether this is a clash under these truths, which must be all that are asked."""
    seen = Seen(task, prefix, truths)
    if not (one < other and one in seen.ready and other in seen.ready and (one, other) in races_of(task)):
        return False
    return len({left_first(task, truths, (*prefix, *pair)).result() for pair in ((one, other), (other, one))}) == 2


def left_first(task, truths, order):
    """The end of the run that goes on left first."""
    seen = Seen(task, order, truths)
    while seen.ready:
        seen = seen.after(seen.ready[0])
    if seen.asking:
        raise Unknown(seen.asking[0])
    return seen
