"""Runs of tasks with guards, and the cases of the truths that guards ask."""

from ordersopen.asking import all_givens, case_given
from ordersopen.doing import shown
from ordersopen.errors import Asked, NotAsked, NotReady
from ordersopen.moments import first_moment, shown_key
from ordersopen.values import is_integer
from ordersopen.webs import Web


class Run:
    """A run of a task, with or without guards."""

    def __init__(self, task, truths=()):
        self.moment = first_moment(task, dict(truths))
        self.end = end_of(self.moment)

    @property
    def done(self):
        """The tuple of the done steps."""
        return self.moment.order

    @property
    def asked(self):
        """The text of the term whose truth is asked, or None."""
        return self.moment.text

    @property
    def ready(self):
        """The ascending list of the ready steps."""
        return list(self.moment.free)

    @property
    def truths(self):
        """The ascending tuple of (text, truth) of the terms whose truth guards have used so far."""
        return tuple(sorted(self.moment.used.items()))

    @property
    def is_over(self):
        """Whether nothing is asked and no step is ready."""
        return self.end is not None

    @property
    def outcome(self):
        """The result, None until the run is over."""
        return self.end

    def go_to(self, moment):
        """Go on to another moment."""
        self.moment = moment
        self.end = end_of(moment)

    def do(self, step):
        """Do a ready step."""
        if self.moment.text is not None:
            raise Asked(self.moment.text)
        if not is_integer(step) or step not in self.moment.free:
            raise NotReady(step)
        self.go_to(self.moment.after(step))

    def tell(self, truth):
        """Give the truth of the term that is asked."""
        if self.moment.text is None:
            raise NotAsked()
        self.go_to(self.moment.under({**self.moment.doing.given, self.moment.text: truth}))

    def finish(self):
        """Go on left first and return the result, or stop when something is asked."""
        self.go_to(self.moment.last())
        if self.moment.text is not None:
            raise Asked(self.moment.text)
        return self.end

    def state(self):
        """Return the state: the values of the done steps, and the contents."""
        doing = self.moment.doing
        return shown_key(doing.terms, doing.key(doing.layout.stored))

    def trial(self, function):
        """Call the function with the run, and return what it returns; then the run is as before."""
        moment, end = self.moment, self.end
        try:
            return function(self)
        finally:
            self.moment, self.end = moment, end

    def __len__(self):
        return len(self.moment.order)


def end_of(moment):
    """Return the result of a run that is over at this moment, otherwise None."""
    return shown(moment.doing.terms, moment.doing.ending()) if moment.has_ended() else None


def cases(task):
    """List all cases, ascending."""
    return sorted([tuple(sorted(given.items())) for given in all_givens(task)])


def runs(task, case=()):
    """Yield the orders of all runs of a case, ascending."""
    waiting = [first_moment(task, case_given(task, case))]
    while len(waiting) > 0:
        moment = waiting.pop()
        if len(moment.free) == 0:
            yield moment.order
        waiting.extend([moment.after(step) for step in moment.free[::-1]])


def case_results(task, case=()):
    """List (result, order) for all results of the runs of a case, each with its least order, ascending by these."""
    web = Web(task, case_given(task, case))
    return [(shown(web.terms, ending), order) for ending, order in web.least_runs().items()]


def clash(task, case=()):
    """Return (prefix, one, other), a clash of a case; None if all its runs have one result."""
    return Web(task, case_given(task, case)).find_clash()
