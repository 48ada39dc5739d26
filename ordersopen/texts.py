"""Texts of tasks, read, and texts of terms, written."""

from ordersopen.errors import NoText
from ordersopen.expressions import LARGEST, SIGNS
from ordersopen.functions import LETTERS, MOST_LETTERS
from ordersopen.tasks import Task
from ordersopen.values import is_integer

DIGITS = "0123456789"
MOST_BRACKETS = 30
NO_PLACE = -1


def read_task(book, text):
    """Return the task with this text."""
    if not isinstance(text, str):
        raise NoText(NO_PLACE)
    reader = Reader(book, text)
    expression = reader.read_node(())
    if reader.at < len(text):
        raise NoText(reader.at)
    return Task(book, expression, points=tuple(sorted(reader.points)))


class Reader:
    """Reads a text from its begin to its end; `at` is the index of the next character.

    A character is taken only if a text of a task continues with it, so the
    first one that is refused is the one to tell.
    """

    def __init__(self, book, text):
        self.book = book
        self.text = text
        self.at = 0
        self.brackets = 0
        self.points = []

    def sees(self, letters):
        """Tell whether the next character is one of these."""
        return self.at < len(self.text) and self.text[self.at] in letters

    def take_one(self, letters):
        """Take and return the next character, which must be one of these."""
        if not self.sees(letters):
            raise NoText(self.at)
        self.at += 1
        return self.text[self.at - 1]

    def take_all(self, word):
        """Take the characters of a word, which must come next."""
        for letter in word:
            self.take_one(letter)

    def take_while(self, letters, most):
        """Take and return one of these characters, and those that follow, at most so many."""
        taken = self.take_one(letters)
        while len(taken) < most and self.sees(letters):
            taken = taken + self.take_one(letters)
        return taken

    def read_node(self, path):
        """Read and return the node that comes next; it has this path."""
        if self.sees("("):
            return self.read_bracket(path)
        if self.sees("+-"):
            by = self.read_change()
            return ("step", self.read_name(), by, "before")
        if self.sees("0"):
            return int(self.take_one("0"))
        if self.sees(DIGITS):
            return int(self.take_while(DIGITS, len(str(LARGEST))))
        name = self.read_name()
        if self.sees("(") and name in self.book:
            return self.read_call(name, path)
        if self.sees("+-"):
            return ("step", name, self.read_change(), "after")
        return ("read", name)

    def read_name(self):
        """Read and return a name."""
        return self.take_while(LETTERS, MOST_LETTERS)

    def read_change(self):
        """Read `++` or `--`, and return what it adds."""
        sign = self.take_one("+-")
        self.take_all(sign)
        return 1 if sign == "+" else -1

    def begin_bracket(self):
        """Read the begin of a bracket, if not too many are open."""
        if self.brackets == MOST_BRACKETS:
            raise NoText(self.at)
        self.take_all("(")
        self.brackets += 1

    def end_bracket(self):
        """Read the end of a bracket."""
        self.take_all(")")
        self.brackets -= 1

    def read_call(self, name, path):
        """Read and return a call, from its bracket on."""
        self.begin_bracket()
        below = []
        separator = ",;"
        for at in range(self.book[name].arguments):
            if at > 0:
                separator = self.take_one(separator)
                self.take_all(" ")
            below.append(self.read_node((*path, at)))
        if separator == ";":
            self.points.append(path)
        self.end_bracket()
        return ("call", name, tuple(below))

    def read_bracket(self, path):
        """Read and return a node that is no call, but has a bracket."""
        self.begin_bracket()
        # A store begins with its place, which is read like a node first.
        node = self.read_behind(self.read_node((*path, 0)), path)
        self.end_bracket()
        return node

    def read_behind(self, one, path):
        """Read a node from behind its first operand on, or from behind its place."""
        if self.sees(","):
            self.take_all(", ")
            return ("then", one, self.read_node((*path, 1)))
        self.take_all(" ")
        if self.sees("=") and is_read(one):
            self.take_all("= ")
            return ("store", one[1], self.read_node((*path, 0)))
        if self.sees("?"):
            self.take_all("? ")
            other = self.read_node((*path, 1))
            self.take_all(" : ")
            return ("choose", one, other, self.read_node((*path, 2)))
        if self.sees("&|"):
            sign = self.take_one("&|")
            self.take_all(f"{sign} ")
            return ("and" if sign == "&" else "or", one, self.read_node((*path, 1)))
        return self.read_op(one, path)

    def read_op(self, one, path):
        """Read an `op` from its sign on."""
        sign = self.take_one("".join(SIGNS))
        if self.sees(";"):
            self.take_all(";")
            self.points.append(path)
        self.take_all(" ")
        return ("op", sign, one, self.read_node((*path, 1)))


def is_read(node):
    """Tell whether a node is a read."""
    return not is_integer(node) and node[0] == "read"


def show_term(term):
    """Return the text of a term; what waits stands in a list, as terms may be nested deep."""
    texts = []
    waiting = [term]
    while len(waiting) > 0:
        piece = waiting.pop()
        if isinstance(piece, str):
            texts.append(piece)
        else:
            waiting.extend(pieces_of(piece)[::-1])
    return "".join(texts)


def pieces_of(term):
    """List the pieces of the text of a term: strings, and terms within it."""
    if is_integer(term):
        return [str(term)]
    if term[0] == "first":
        return [term[1]]
    if term[0] == "value":
        return call_pieces(term[1], term[2])
    if term[0] == "left":
        return call_pieces(f"{term[1]}.{term[2]}", term[3])
    return ["(", term[1], f" {term[0]} ", term[2], ")"]


def call_pieces(name, inputs):
    """List the pieces of the text of what comes of a call."""
    found = [f"{name}("]
    for at, term in enumerate(inputs):
        if at > 0:
            found.append(", ")
        found.append(term)
    return [*found, ")"]
