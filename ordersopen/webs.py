"""The states of the runs of a task under some truths, and what leads from one to another."""

from ordersopen.moments import Moment, first_moment
from ordersopen.steps import is_race


class Web:
    """The states of the runs under the truths of a case, as far as they were visited, told by their keys.

    `start` is the first state. `moments` has a moment in each state, `nexts`
    the states behind it, by the steps that lead to them, and `endings` what
    comes of it if the run goes on left first.
    """

    def __init__(self, task, given):
        moment = first_moment(task, given)
        self.terms = moment.doing.terms
        self.start = moment.doing.key(task.layout.stored)
        self.moments = {self.start: moment}
        self.nexts = {self.start: {}}
        self.endings = {}

    def next_key(self, key, step):
        """Return the state behind a state after a ready step."""
        nexts = self.nexts[key]
        if step not in nexts:
            moment = self.moments[key]
            doing = moment.doing.after(step)
            nexts[step] = doing.key(doing.layout.stored)
            if nexts[step] not in self.moments:
                self.moments[nexts[step]] = Moment(doing, (*moment.order, step))
                self.nexts[nexts[step]] = {}
        return nexts[step]

    def behind(self, key, prefix):
        """List (state, prefix) for the states behind a state that comes of a prefix, that of the least step last."""
        steps = self.moments[key].free[::-1]
        return [(self.next_key(key, step), (*prefix, step)) for step in steps]

    def prefixes(self):
        """Return a dict from all states to their least prefixes, these ascending."""
        waiting = [(self.start, ())]
        found = {}
        while len(waiting) > 0:
            key, prefix = waiting.pop()
            if key not in found:
                found[key] = prefix
                waiting.extend(self.behind(key, prefix))
        return found

    def states_up_to(self, most):
        """Return a dict of all states; None if there are more than so many, or if a guard asks in one of them."""
        waiting = [(self.start, ())]
        found = {}
        while len(waiting) > 0:
            key, prefix = waiting.pop()
            if key not in found:
                if len(found) == most or self.moments[key].text is not None:
                    return None
                found[key] = True
                waiting.extend(self.behind(key, prefix))
        return found

    def least_runs(self):
        """Return a dict from all that comes of the runs to the least order of which it comes, these ascending."""
        found = {}
        for key, prefix in self.prefixes().items():
            if len(self.moments[key].free) == 0 and self.ending_from(key) not in found:
                found[self.ending_from(key)] = prefix
        return found

    def ending_from(self, key):
        """Return what comes of going on left first from a state."""
        passed = []
        while key not in self.endings:
            passed.append(key)
            free = self.moments[key].free
            if len(free) == 0:
                self.endings[key] = self.moments[key].doing.ending()
            else:
                key = self.next_key(key, free[0])
        for one in passed:
            self.endings[one] = self.endings[key]
        return self.endings[key]

    def find_clash(self):
        """Return (prefix, one, other) of a clash; None if all runs have one result."""
        waiting = [(self.start, ())]
        seen = {}
        while len(waiting) > 0:
            key, prefix = waiting.pop()
            if key not in seen:
                seen[key] = True
                for one, other in racing_pairs(self.moments[key]):
                    if self.ending_after(key, one, other) != self.ending_after(key, other, one):
                        return prefix, one, other
                waiting.extend(self.behind(key, prefix))
        return None

    def ending_after(self, key, one, other):
        """Return what comes of going on left first from a state after two steps."""
        return self.ending_from(self.next_key(self.next_key(key, one), other))


def racing_pairs(moment):
    """List the racing pairs of the ready steps."""
    layout = moment.doing.layout
    return [(one, other) for one in moment.free for other in moment.free if one < other and is_race(layout, one, other)]
