"""What the guards of a task ask in its runs: all cases, and whether a value is one."""

from ordersopen.doing import Doing
from ordersopen.errors import NoCase, TooMany
from ordersopen.moments import Moment
from ordersopen.terms import Terms
from ordersopen.values import is_ascending

MOST_CASES = 64


class Asking:
    """All that guards ask in the runs under the truths that are `given`.

    States are told by their keys, without the values that no guard comes to
    ask. `waiting` are (key, doing) of the states that were not looked at yet,
    `used` the texts of the terms whose truths guards have used.
    """

    def __init__(self, task, given):
        start = Doing(task.layout, Terms(), given)
        self.given = given
        self.waiting = [(start.key(task.layout.unasked), start)]
        self.seen = {}
        self.used = {}

    def spread(self):
        """Follow all runs until a guard asks; return the text of the term, or None if no guard does."""
        while len(self.waiting) > 0:
            key, doing = self.waiting.pop()
            if key not in self.seen:
                moment = Moment(doing.under(self.given), ())
                if moment.text is not None:
                    self.waiting.append((key, doing))
                    return moment.text
                self.seen[key] = True
                self.used.update(moment.used)
                behind = [moment.doing.after(step) for step in moment.free]
                self.waiting.extend([(one.key(one.layout.unasked), one) for one in behind])
        return None

    def learn(self, text, truth):
        """Go on with one truth more."""
        self.given = {**self.given, text: truth}


def all_givens(task):
    """List the truths of all cases, by the texts of the terms, in the order in which they were asked.

    Of each term that is asked, the truth False comes ahead of True.
    """
    waiting = [{}]
    found = []
    while len(waiting) > 0:
        asking = Asking(task, waiting.pop())
        text = asking.spread()
        while text is not None:
            waiting.append({**asking.given, text: True})
            # All that waits leads to one case or more, and so does this.
            if len(waiting) + len(found) >= MOST_CASES:
                raise TooMany(MOST_CASES)
            asking.learn(text, False)
            text = asking.spread()
        found.append(asking.given)
    return found


def case_given(task, case):
    """Return the truths of a case, by the texts of the terms; raise NoCase if any value is none."""
    if not are_truths(case):
        raise NoCase(case)
    asking = Asking(task, dict(case))
    if asking.spread() is not None or len(asking.used) < len(case):
        raise NoCase(case)
    return dict(case)


def are_truths(value):
    """Tell whether any value is an ascending tuple of (text, truth), no text twice."""
    if not isinstance(value, tuple) or not all([is_truth_row(row) for row in value]):
        return False
    return is_ascending([row[0] for row in value])


def is_truth_row(value):
    """Tell whether any value is (text, truth)."""
    if not isinstance(value, tuple) or len(value) != 2:
        return False
    return isinstance(value[0], str) and isinstance(value[1], bool)
