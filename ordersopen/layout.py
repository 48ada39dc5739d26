"""The layout of a task: its nodes as a tree, its steps, and which steps precede each other or are open.

A set of steps is an integer here: the step n is in it if its bit n is set.
"""

from ordersopen.errors import Guarded
from ordersopen.expressions import is_guard, operands, own_steps
from ordersopen.values import is_integer


class Span:
    """A node and the numbers of the steps in it, from `first` on: those of its operands, then its own.

    `is_fixed` tells whether its operands are in order, `size` how many steps
    are `inside`, `is_idle` whether nothing within, neither a step nor a guard,
    has to be waited for.
    """

    def __init__(self, path, form, below, first, is_fixed):
        within = sum([span.size for span in below])
        many = len(own_steps(form))
        self.path = path
        self.form = form
        self.below = below
        self.is_fixed = is_fixed
        self.size = within + many
        self.own = tuple([first + within + at for at in range(many)])
        self.inside = ((1 << self.size) - 1) << first
        self.is_idle = self.size == 0 and not is_guard(form) and all([span.is_idle for span in below])


def span_of(node, path, first, points):
    """Return the span of a node, with those of its operands; its first step has this number."""
    below = []
    free = first
    for at, operand in enumerate(operands(node)):
        span = span_of(operand, (*path, at), free, points)
        below.append(span)
        free += span.size
    return Span(path, node, tuple(below), first, is_in_order(node) or path in points)


def is_in_order(node):
    """Tell whether the operands of a node are in order without a point, those of a `then` or a guard."""
    return not is_integer(node) and (node[0] == "then" or is_guard(node))


def spans_within(root):
    """List a span and all spans below it in preorder."""
    found = []
    waiting = [root]
    while len(waiting) > 0:
        span = waiting.pop()
        found.append(span)
        waiting.extend(span.below[::-1])
    return found


def step_of(book, span, step):
    """Return (kind, path, reads, stores) of an own step of a node."""
    form = span.form
    kind = own_steps(form)[step - span.own[0]]
    if kind == "call":
        function = book[form[1]]
        return (kind, span.path, function.reads, function.stores)
    if kind == "read":
        return (kind, span.path, (form[1],), ())
    return (kind, span.path, (), (form[1],))


def below_ahead(span, at):
    """Return those operands of a node whose steps precede the steps of the operand with this index."""
    if not span.is_fixed:
        return ()
    if is_guard(span.form):
        # The branches of a `choose` exclude each other, so only operand 0 is ahead of them.
        return span.below[:min(at, 1)]
    return span.below[:at]


def joined(spans):
    """Return the set of the steps of several nodes."""
    together = 0
    for span in spans:
        together = together | span.inside
    return together


def relations(root):
    """Return two tuples with a set for each step: the steps that precede it, and those that are open with it."""
    befores = [0] * root.size
    besides = [0] * root.size
    waiting = [(root, 0, 0)]
    while len(waiting) > 0:
        span, ahead, beside = waiting.pop()
        for step in span.own:
            befores[step] = ahead | (span.inside & ((1 << step) - 1))
            besides[step] = beside
        for at, one in enumerate(span.below):
            others = 0 if span.is_fixed else joined(span.below) & ~one.inside
            waiting.append((one, ahead | joined(below_ahead(span, at)), beside | others))
    return tuple(befores), tuple(besides)


def unasked_within(book, span, is_asked):
    """Return the set of the steps in a node whose values no guard comes to ask, whatever the contents are.

    `is_asked` tells whether a guard may come to ask the value of the node. The
    value that a `step` node has read is asked, as what it stores is made of it.
    """
    form = span.form
    found = 0
    for step in span.own[:1]:
        if not is_asked and form[0] != "step":
            found = found | (1 << step)
    for at, one in enumerate(span.below):
        found = found | unasked_within(book, one, is_asked_of(book, form, at, is_asked))
    return found


def is_asked_of(book, form, at, is_asked):
    """Tell whether a guard may come to ask the value of this operand of a node."""
    if form[0] == "store" or (is_guard(form) and at == 0):
        return True
    if form[0] == "then":
        return is_asked and at == 1
    return is_asked or (form[0] == "call" and len(book[form[1]].stores) > 0)


class Layout:
    """The nodes and steps of a task: `root` is the span of the whole, `owners` are the spans of the steps.

    `stored` is the set of the steps of stores, `unasked` that of the steps
    whose values no guard comes to ask, those of stores too.
    """

    def __init__(self, book, expression, points):
        self.root = span_of(expression, (), 0, points)
        spans = spans_within(self.root)
        owners = {step: span for span in spans for step in span.own}
        guards = [span.path for span in spans if is_guard(span.form)]
        self.spans = tuple(spans)
        self.owners = tuple([owners[step] for step in range(len(owners))])
        self.steps = tuple([step_of(book, span, step) for step, span in enumerate(self.owners)])
        self.befores, self.besides = relations(self.root)
        self.stored = sum([1 << step for step, row in enumerate(self.steps) if row[0] == "store"])
        self.unasked = self.stored | unasked_within(book, self.root, False)
        self.guard = guards[0] if len(guards) > 0 else None


def refuse_guards(task):
    """Raise Guarded with the path of the first guard in preorder, if the task has one."""
    if task.layout.guard is not None:
        raise Guarded(task.layout.guard)
