"""Terms, each with a number, so that equal terms are found without looking into them."""


class Terms:
    """The terms that came about so far; `rows` holds them by their numbers.

    A term may be nested deep, and much of it may stand in other terms too.
    So its key has the numbers of the terms within it, not these terms.
    """

    def __init__(self):
        self.rows = []
        self.numbers = {}

    def kept(self, key, term):
        """Return the number of the term with this key."""
        if key not in self.numbers:
            self.numbers[key] = len(self.rows)
            self.rows.append(term)
        return self.numbers[key]

    def integer(self, value):
        """Return the number of an integer as a term."""
        return self.kept(("integer", value), value)

    def first(self, place):
        """Return the number of what a place contains at first."""
        return self.kept(("first", place), ("first", place))

    def signed(self, sign, one, other):
        """Return the number of a sign with the terms that have these numbers."""
        return self.kept((sign, one, other), (sign, self.rows[one], self.rows[other]))

    def returned(self, name, inputs):
        """Return the number of what a function returns for inputs with these numbers."""
        return self.kept(("value", name, inputs), ("value", name, self.told(inputs)))

    def left_in(self, name, place, inputs):
        """Return the number of what a function leaves in a place for inputs with these numbers."""
        return self.kept(("left", name, place, inputs), ("left", name, place, self.told(inputs)))

    def told(self, numbers):
        """Return the tuple of the terms with these numbers."""
        return tuple([self.rows[at] for at in numbers])
