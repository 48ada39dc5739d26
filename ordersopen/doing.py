"""Doing the steps of a task, one after another."""

from ordersopen.expressions import is_guard
from ordersopen.values import is_integer


class Doing:
    """What has come of the steps that are done; values and contents are numbers of terms.

    `known` has what the steps read, returned or stored, `contents` what was
    stored, by the places. `given` has the truths of terms, by their texts.
    """

    def __init__(self, layout, terms, given):
        self.layout = layout
        self.terms = terms
        self.given = given
        self.known = {}
        self.contents = {}

    def under(self, given):
        """Return the same with other truths."""
        same = Doing(self.layout, self.terms, given)
        same.known = dict(self.known)
        same.contents = dict(self.contents)
        return same

    def after(self, step):
        """Return what has come of one step more."""
        more = self.under(self.given)
        more.do_step(step)
        return more

    def key(self, hidden):
        """Return the state with numbers of terms, with -1 for the values of the steps in this set."""
        values = [(step, -1 if (hidden >> step) & 1 else self.known[step]) for step in sorted(self.known)]
        return tuple(values), self.changed()

    def content(self, place):
        """Return what a place contains."""
        if place in self.contents:
            return self.contents[place]
        return self.terms.first(place)

    def changed(self):
        """Return (place, content) of the places whose content is not the first one, ascending.

        A place that was stored may contain again what it did at first.
        """
        return tuple([(place, self.contents[place]) for place in sorted(self.contents)
                      if self.contents[place] != self.terms.first(place)])

    def value_of(self, span):
        """Return the value of a node that is complete."""
        form = span.form
        if is_integer(form):
            return self.terms.integer(form)
        if form[0] == "op":
            return self.terms.signed(form[1], self.value_of(span.below[0]), self.value_of(span.below[1]))
        if form[0] == "then":
            return self.value_of(span.below[1])
        if is_guard(form):
            value = self.value_of(span.below[0])
            at = chosen(form[0], self.truth_of(value))
            return value if at == 0 else self.value_of(span.below[at])
        is_changed = form[0] == "step" and form[3] == "before"
        return self.known[span.own[1 if is_changed else 0]]

    def truth_of(self, number):
        """Return the truth of the term with this number; None if it is unknown."""
        term = self.terms.rows[number]
        if is_integer(term):
            return term != 0
        return self.given.get(self.terms.text_at(number), None)

    def do_step(self, step):
        """Do a step."""
        span = self.layout.owners[step]
        form = span.form
        if form[0] == "call":
            self.do_call(step, span)
        elif step != span.own[0]:
            sign = "+" if form[2] == 1 else "-"
            self.store(step, form[1], self.terms.signed(sign, self.known[span.own[0]], self.terms.integer(1)))
        elif form[0] == "store":
            self.store(step, form[1], self.value_of(span.below[0]))
        else:
            self.known[step] = self.content(form[1])

    def store(self, step, place, number):
        """Do the step of a store, or the second one of a `step` node."""
        self.known[step] = number
        self.contents[place] = number

    def do_call(self, step, span):
        """Do a call; its inputs are those from before all that it stores."""
        kind, path, reads, stores = self.layout.steps[step]
        name = span.form[1]
        inputs = (*[self.value_of(one) for one in span.below], *[self.content(place) for place in reads])
        self.known[step] = self.terms.returned(name, inputs)
        for place in stores:
            self.contents[place] = self.terms.left_in(name, place, inputs)

    def ending(self):
        """Return the value of the whole, and (place, content) of the places whose content changed, ascending."""
        return self.value_of(self.layout.root), self.changed()


def chosen(kind, truth):
    """Return the index of the operand whose value a guard has, if its operand 0 has this truth."""
    if kind == "choose":
        return 1 if truth else 2
    return 1 if truth == (kind == "and") else 0


def ending_of(layout, order, terms):
    """Return what comes of an order, with numbers of terms."""
    doing = Doing(layout, terms, {})
    for step in order:
        doing.do_step(step)
    return doing.ending()


def shown(terms, ending):
    """Return a result: what came of an order, with the terms themselves."""
    value, contents = ending
    return terms.rows[value], shown_contents(terms, contents)


def shown_contents(terms, contents):
    """Return (place, content) of the places, with the terms themselves."""
    return tuple([(place, terms.rows[content]) for place, content in contents])
