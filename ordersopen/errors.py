"""The errors of the package.

The fields may be any values, lists too. Each error keeps copies of them, so
that what a caller does to a list later does not show in an error.
"""

from ordersopen.values import copied


class NoName(ValueError):
    """A value is not a name."""

    def __init__(self, name):
        super().__init__(f"not a name: {name!r}")
        self.name = copied(name)


class BadFunction(ValueError):
    """A parameter of a function, other than its name, is wrong."""

    def __init__(self, part):
        super().__init__(f"wrong part of a function: {part!r}")
        self.part = copied(part)


class NoExpression(ValueError):
    """The node with this path is not of a form of expressions."""

    def __init__(self, path):
        super().__init__(f"not an expression at the path {path!r}")
        self.path = copied(path)


class NoOrder(ValueError):
    """A value is not an order of the task."""

    def __init__(self, order):
        super().__init__(f"not an order: {order!r}")
        self.order = copied(order)


class NoText(ValueError):
    """A value is not the text of a task, as its character at this place shows."""

    def __init__(self, place):
        super().__init__(f"not the text of a task, at the place {place!r}")
        self.place = copied(place)


class BadBook(TypeError):
    """The argument of a book with this index is wrong."""

    def __init__(self, at):
        super().__init__(f"no function, or a name for the second time, at the index {at!r}")
        self.at = copied(at)


class NoPoints(TypeError):
    """A value does not consist of paths that can be points."""

    def __init__(self, points):
        super().__init__(f"not points: {points!r}")
        self.points = copied(points)


class NoFunction(KeyError):
    """A value is not the name of a function of the book."""

    def __init__(self, name):
        super().__init__(f"not the name of a function: {name!r}")
        self.name = copied(name)


class NoCase(KeyError):
    """A value is not a case of the task."""

    def __init__(self, case):
        super().__init__(f"not a case: {case!r}")
        self.case = copied(case)


class NoNumber(IndexError):
    """A value is not the number of an order."""

    def __init__(self, number):
        super().__init__(f"not the number of an order: {number!r}")
        self.number = copied(number)


class NoStep(IndexError):
    """A value is not the number of a step."""

    def __init__(self, step):
        super().__init__(f"not the number of a step: {step!r}")
        self.step = copied(step)


class NothingToUndo(IndexError):
    """There is no call that can be taken back."""

    def __init__(self):
        super().__init__("nothing to undo")


class NoClass(LookupError):
    """A value is not a class of the task."""

    def __init__(self, flips):
        super().__init__(f"not a class: {flips!r}")
        self.flips = copied(flips)


class NoPair(LookupError):
    """A value is not a pair that can be flipped."""

    def __init__(self, pair):
        super().__init__(f"not a pair that can be flipped: {pair!r}")
        self.pair = copied(pair)


class NoNode(LookupError):
    """A value is not the path of a node, or not of such a node as is asked for."""

    def __init__(self, path):
        super().__init__(f"not the path of such a node: {path!r}")
        self.path = copied(path)


class TooMany(OverflowError):
    """There is more of something than this limit."""

    def __init__(self, limit):
        super().__init__(f"more than {limit!r}")
        self.limit = copied(limit)


class Guarded(RuntimeError):
    """The task has a guard, at this path."""

    def __init__(self, path):
        super().__init__(f"a guard at the path {path!r}")
        self.path = copied(path)


class Unlike(RuntimeError):
    """Two tasks have different books."""

    def __init__(self):
        super().__init__("the books of the tasks are not equal")


class Asked(RuntimeError):
    """The truth of the term with this text is asked first."""

    def __init__(self, text):
        super().__init__(f"the truth of this term is asked first: {text!r}")
        self.text = copied(text)


class NotAsked(RuntimeError):
    """A truth is told, but none is asked."""

    def __init__(self):
        super().__init__("no truth is asked")


class NotReady(RuntimeError):
    """A value is not a ready step."""

    def __init__(self, step):
        super().__init__(f"not a ready step: {step!r}")
        self.step = copied(step)
