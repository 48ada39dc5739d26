"""The bench: changes of a task, the races that go and come with them, and how to take them back."""

from ordersopen.errors import NoNode, NothingToUndo
from ordersopen.expressions import is_open_path
from ordersopen.steps import races, steps
from ordersopen.tasks import Task


class Bench:
    """A task that is changed; `past` has the tasks ahead of those calls that can be taken back."""

    def __init__(self, task):
        self.task = Task(task.book, task.expression, points=task.points)
        self.past = ()

    def put(self, path, expression):
        """Put another expression at a node, and return the races that go and come."""
        return self.go_on(self.task.put(path, expression))

    def point(self, path):
        """Make an open node a point, and return the races that go and come."""
        if not is_open_path(self.task.expression, path) or path in self.task.points:
            raise NoNode(path)
        return self.go_on(self.task.with_points(path))

    def unpoint(self, path):
        """Make a point none, and return the races that go and come."""
        if not is_open_path(self.task.expression, path) or path not in self.task.points:
            raise NoNode(path)
        points = tuple([point for point in self.task.points if point != path])
        return self.go_on(Task(self.task.book, self.task.expression, points=points))

    def go_on(self, task):
        """Change to another task, and return the races that go and come."""
        changed = exchanged(self.task, task)
        self.past = (*self.past, self.task)
        self.task = task
        return changed

    def undo(self):
        """Take back the last call that was not taken back, and return the races that go and come."""
        if len(self.past) == 0:
            raise NothingToUndo()
        changed = exchanged(self.task, self.past[-1])
        self.task = self.past[-1]
        self.past = self.past[:-1]
        return changed

    def trial(self, function):
        """Call the function with the bench, and return what it returns; then the bench is as before."""
        task, past = self.task, self.past
        self.past = ()
        try:
            return function(self)
        finally:
            self.task, self.past = task, past

    def __len__(self):
        return len(self.past)


def exchanged(before, after):
    """Return two lists of the races that only the first task has, and that only the second one has, ascending."""
    ours, theirs = told_races(before), told_races(after)
    gone = [race for race in ours if race not in theirs]
    come = [race for race in theirs if race not in ours]
    return gone, come


def told_races(task):
    """Return a dict of the races of a task, ascending, each as (kind, path) of both steps."""
    told = [(kind, path) for kind, path, reads, stores in steps(task)]
    return {race: True for race in sorted([(told[one], told[other]) for one, other in races(task)])}
