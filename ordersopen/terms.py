"""Terms, each with a number, so that equal terms are found without looking into them."""

from ordersopen.expressions import SIGNS
from ordersopen.texts import show_term
from ordersopen.values import is_integer


class Terms:
    """The terms that came about so far; `rows` holds them by their numbers.

    A term may be nested deep, and much of it may stand in other terms too.
    So its key has the numbers of the terms within it, not these terms.
    """

    def __init__(self):
        self.rows = []
        self.numbers = {}
        self.texts = {}

    def kept(self, key, term):
        """Return the number of the term with this key."""
        if key not in self.numbers:
            self.numbers[key] = len(self.rows)
            self.rows.append(term)
        return self.numbers[key]

    def integer(self, value):
        """Return the number of an integer as a term."""
        return self.kept(("integer", value), value)

    def first(self, place):
        """Return the number of what a place contains at first."""
        return self.kept(("first", place), ("first", place))

    def signed(self, sign, one, other):
        """Return the number of a sign with the terms that have these numbers."""
        return self.kept((sign, one, other), (sign, self.rows[one], self.rows[other]))

    def returned(self, name, inputs):
        """Return the number of what a function returns for inputs with these numbers."""
        return self.kept(("value", name, inputs), ("value", name, self.told(inputs)))

    def left_in(self, name, place, inputs):
        """Return the number of what a function leaves in a place for inputs with these numbers."""
        return self.kept(("left", name, place, inputs), ("left", name, place, self.told(inputs)))

    def told(self, numbers):
        """Return the tuple of the terms with these numbers."""
        return tuple([self.rows[at] for at in numbers])

    def text_at(self, number):
        """Return the text of the term with this number."""
        if number not in self.texts:
            self.texts[number] = show_term(self.rows[number])
        return self.texts[number]

    def number_of(self, value):
        """Return the number of any value, if it is one of these terms, otherwise None.

        It goes from the inside out by a list of what waits, as terms may be
        nested deep: each comes once ahead of the terms within it, once behind.
        """
        waiting = [(value, False)]
        found = []
        while len(waiting) > 0:
            term, is_behind = waiting.pop()
            within = terms_within(term)
            if within is None:
                return None
            if is_behind:
                key = key_of(term, found[len(found) - len(within):])
                del found[len(found) - len(within):]
                if key not in self.numbers:
                    return None
                found.append(self.numbers[key])
            else:
                waiting.append((term, True))
                waiting.extend([(one, False) for one in within[::-1]])
        return found[0]


def terms_within(value):
    """Return a tuple of the terms directly within any value, if it can be a term, otherwise None."""
    if is_integer(value):
        return ()
    if not isinstance(value, tuple) or len(value) < 2 or not isinstance(value[0], str):
        return None
    if value[0] in SIGNS:
        return value[1:] if len(value) == 3 else None
    names = {"first": 1, "value": 1, "left": 2}.get(value[0], 0)
    if names == 0 or not all([isinstance(name, str) for name in value[1:1 + names]]):
        return None
    if value[0] == "first":
        return () if len(value) == 2 else None
    return value[-1] if len(value) == names + 2 and isinstance(value[-1], tuple) else None


def key_of(term, numbers):
    """Return the key of a term, with the numbers of the terms directly within it."""
    if is_integer(term):
        return ("integer", term)
    if term[0] == "first":
        return term
    if term[0] in SIGNS:
        return (term[0], *numbers)
    return (*term[:-1], tuple(numbers))
