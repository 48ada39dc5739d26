"""Names, functions and books."""

from ordersopen.errors import BadBook, BadFunction, NoFunction, NoName, TooMany
from ordersopen.values import is_ascending, is_integer

LETTERS = "abcdefghijklmnopqrstuvwxyz"
MOST_LETTERS = 8
MOST_ARGUMENTS = 3
MOST_PLACES = 4


def is_name(value):
    """Tell whether any value is a name: one to eight letters from a to z."""
    if not isinstance(value, str) or not 1 <= len(value) <= MOST_LETTERS:
        return False
    return all([letter in LETTERS for letter in value])


def are_places(value):
    """Tell whether any value is what a function may read or store."""
    if not isinstance(value, tuple) or len(value) > MOST_PLACES:
        return False
    return all([is_name(place) for place in value]) and is_ascending(value)


class Function:
    """A function: what it computes is unknown, what it reads and stores is not."""

    def __init__(self, name, arguments=0, *, reads=(), stores=()):
        if not is_name(name):
            raise NoName(name)
        if not is_integer(arguments) or not 0 <= arguments <= MOST_ARGUMENTS:
            raise BadFunction("arguments")
        if not are_places(reads):
            raise BadFunction("reads")
        if not are_places(stores):
            raise BadFunction("stores")
        self.name = name
        self.arguments = arguments
        self.reads = reads
        self.stores = stores

    def __eq__(self, other):
        return (isinstance(other, Function) and self.name == other.name and self.arguments == other.arguments
                and self.reads == other.reads and self.stores == other.stores)

    def __repr__(self):
        return f"Function({self.name}, {self.arguments})"


def same_function(function):
    """Return an equal function that is another object."""
    return Function(function.name, function.arguments, reads=function.reads, stores=function.stores)


class Book:
    """At most six functions with different names.

    A book holds copies, and gives away copies, so that a caller who assigns to
    an attribute of a function does not change a book.
    """

    MOST = 6

    def __init__(self, *functions):
        seen = []
        for at, function in enumerate(functions):
            if not isinstance(function, Function) or function.name in seen:
                raise BadBook(at)
            seen.append(function.name)
        if len(functions) > Book.MOST:
            raise TooMany(Book.MOST)
        ordered = sorted(functions, key=lambda one: one.name)
        self.functions = tuple([same_function(one) for one in ordered])

    @property
    def names(self):
        """The names of the functions, an ascending tuple."""
        return tuple([function.name for function in self.functions])

    def __getitem__(self, at):
        for function in self.functions:
            if function.name == at:
                return same_function(function)
        raise NoFunction(at)

    def __contains__(self, x):
        return x in self.names

    def __iter__(self):
        raise TypeError("a book is not iterated over")

    def __len__(self):
        return len(self.functions)

    def __eq__(self, other):
        return isinstance(other, Book) and self.functions == other.functions

    def __repr__(self):
        return f"Book({', '.join(self.names)})"
