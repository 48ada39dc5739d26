"""The moments of runs: which steps are ready, and what guards ask."""

from ordersopen.doing import Doing, chosen, shown_contents
from ordersopen.expressions import is_guard
from ordersopen.terms import Terms
from ordersopen.values import is_integer


class Moment:
    """What has come of a run, and what can follow; it does not change.

    `order` are the steps that are done, `used` the truths that guards have
    used, by the texts of the terms, `text` is that of the term that is asked,
    or None, and `free` are the ready steps.
    """

    def __init__(self, doing, order):
        self.doing = doing
        self.order = order
        self.used = {}
        self.text = None
        self.free = []
        self.reach(doing.layout.root)
        if self.text is not None:
            self.free = []

    def reach(self, span):
        """Note what a node that can start waits for, and tell whether it is complete."""
        if span.is_idle:
            return True
        if is_guard(span.form):
            return self.reach_guard(span)
        is_complete = True
        for one in span.below:
            if not self.reach(one):
                is_complete = False
                if span.is_fixed:
                    break
        left = [step for step in span.own if step not in self.doing.known]
        if is_complete and len(left) > 0:
            self.free.append(left[0])
        return is_complete and len(left) == 0

    def reach_guard(self, span):
        """Note what a guard that can start waits for, and tell whether it is complete."""
        if not self.reach(span.below[0]):
            return False
        doing = self.doing
        value = doing.value_of(span.below[0])
        truth = doing.truth_of(value)
        if truth is None:
            # The guards come in preorder, and the first one of them asks.
            self.text = self.text if self.text is not None else doing.terms.text_at(value)
            return False
        if not is_integer(doing.terms.rows[value]):
            self.used[doing.terms.text_at(value)] = truth
        at = chosen(span.form[0], truth)
        return at == 0 or self.reach(span.below[at])

    def after(self, step):
        """Return the moment after a ready step."""
        return Moment(self.doing.after(step), (*self.order, step))

    def under(self, given):
        """Return the moment with other truths."""
        return Moment(self.doing.under(given), self.order)

    def last(self):
        """Return the last moment of the run that goes on left first, or the first one that asks."""
        moment = self
        while len(moment.free) > 0:
            moment = moment.after(moment.free[0])
        return moment

    def has_ended(self):
        """Tell whether nothing is asked and no step is ready."""
        return self.text is None and len(self.free) == 0


def first_moment(task, given):
    """Return the moment at which a run has done nothing yet."""
    return Moment(Doing(task.layout, Terms(), given), ())


def moment_after(task, given, steps):
    """Return the moment of a run after these steps, each ready in its turn."""
    moment = first_moment(task, given)
    for step in steps:
        moment = moment.after(step)
    return moment


def shown_key(terms, key):
    """Return a state, with the terms themselves, by its key."""
    values, contents = key
    told = [(step, () if number == -1 else terms.rows[number]) for step, number in values]
    return tuple(told), shown_contents(terms, contents)
