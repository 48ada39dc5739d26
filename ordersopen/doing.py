"""Doing the steps of a task, one after another."""

from ordersopen.values import is_integer


class Doing:
    """What has come of the steps that are done; values and contents are numbers of terms.

    `known` has the values of the nodes with own steps, by their paths, and
    `contents` what was stored, by the places.
    """

    def __init__(self, layout, terms):
        self.layout = layout
        self.terms = terms
        self.known = {}
        self.contents = {}

    def content(self, place):
        """Return what a place contains."""
        if place in self.contents:
            return self.contents[place]
        return self.terms.first(place)

    def value_of(self, span):
        """Return the value of a node whose steps are all done."""
        form = span.form
        if is_integer(form):
            return self.terms.integer(form)
        if form[0] == "op":
            return self.terms.signed(form[1], self.value_of(span.below[0]), self.value_of(span.below[1]))
        if form[0] == "then":
            return self.value_of(span.below[1])
        return self.known[span.path]

    def do_step(self, step):
        """Do a step."""
        span = self.layout.owners[step]
        if span.form[0] == "call":
            self.do_call(span, self.layout.steps[step])
        elif step != span.own[0]:
            self.do_change(span)
        elif span.form[0] == "store":
            self.known[span.path] = self.value_of(span.below[0])
            self.contents[span.form[1]] = self.known[span.path]
        else:
            self.known[span.path] = self.content(span.form[1])

    def do_change(self, span):
        """Do the store of a `step` node."""
        form = span.form
        sign = "+" if form[2] == 1 else "-"
        changed = self.terms.signed(sign, self.known[span.path], self.terms.integer(1))
        self.contents[form[1]] = changed
        if form[3] == "before":
            self.known[span.path] = changed

    def do_call(self, span, row):
        """Do a call with this row of `steps`; its inputs are those from before all that it stores."""
        kind, path, reads, stores = row
        name = span.form[1]
        inputs = (*[self.value_of(one) for one in span.below], *[self.content(place) for place in reads])
        self.known[path] = self.terms.returned(name, inputs)
        for place in stores:
            self.contents[place] = self.terms.left_in(name, place, inputs)

    def ending(self):
        """Return the value of the whole, and (place, content) of the places whose content changed, ascending.

        A place that was stored may contain again what it did at first.
        """
        changed = [(place, self.contents[place]) for place in sorted(self.contents)
                   if self.contents[place] != self.terms.first(place)]
        return self.value_of(self.layout.root), tuple(changed)


def ending_of(layout, order, terms):
    """Return what comes of an order, with numbers of terms."""
    doing = Doing(layout, terms)
    for step in order:
        doing.do_step(step)
    return doing.ending()


def shown(terms, ending):
    """Return a result: what came of an order, with the terms themselves."""
    value, contents = ending
    return terms.rows[value], tuple([(place, terms.rows[content]) for place, content in contents])
