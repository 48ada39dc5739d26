"""Promises [5] and [6]: which values are expressions of a book, and the errors that tell which are not."""

import unittest

from ordersopen.functions import Book, Function
from ordersopen.tasks import Task
from tests.helper import BOOK, any_values, told

X = ("read", "x")

RIGHT = [
    0, 1, 999999, X, ("read", "abcdefgh"), ("read", "f"), ("store", "x", 1), ("store", "f", X),
    ("step", "x", 1, "before"), ("step", "x", -1, "before"), ("step", "x", 1, "after"), ("step", "x", -1, "after"),
    ("op", "+", 1, 2), ("op", "-", 1, 2), ("op", "*", X, X), ("op", "<", 0, X),
    ("call", "k", ()), ("call", "f", (1,)), ("call", "g", (1, X)), ("call", "h", (1, 2, 3)),
    ("then", 1, 2), ("and", 1, 2), ("or", 1, 2), ("choose", 1, 2, 3),
]

# Each of these is wrong itself, not only in an operand.
WRONG = [
    -1, 1000000, 10 ** 39, True, False, None, "", "x", "7", 1.0, b"x", [], (), {}, {1}, Function("f"), BOOK,
    ("",), ("add", 1, 2), ("Read", "x"), ("read\n", "x"), ("r", "x"), (1,), (0, 1), (None, "x"), (True, "x"),
    (("read",), "x"), (["read"], "x"), ("value", "f", ()), ("first", "x"), ("left", "f", "x", ()), ("+", 1, 2),
    ["read", "x"], ("read",), ("read", "x", "x"), ("read", ""), ("read", "X"), ("read", "x1"), ("read", "abcdefghi"),
    ("read", "x\n"), ("read", 1), ("read", None), ("read", True), ("read", ["x"]), ("read", ("x",)), ("read", X),
    ["store", "x", 1], ("store",), ("store", "x"), ("store", "x", 1, 1), ("store", "X", 1), ("store", 1, "x"),
    ("store", None, 1), ("store", ["x"], 1), ("store", "", 1), ("store", "abcdefghi", 1), ("store", X, 1),
    ["step", "x", 1, "after"], ("step", "x", 1), ("step", "x", 1, "after", 1), ("step",), ("step", "x"),
    ("step", "X", 1, "after"), ("step", 1, 1, "after"), ("step", X, 1, "after"), ("step", "abcdefghi", 1, "before"),
    ("step", "x", 0, "after"), ("step", "x", 2, "after"), ("step", "x", -2, "after"), ("step", "x", True, "after"),
    ("step", "x", "1", "after"), ("step", "x", None, "after"), ("step", "x", [1], "after"), ("step", "x", 1.0, "after"),
    ("step", "x", "+", "after"), ("step", "x", 1, ""), ("step", "x", 1, "After"), ("step", "x", 1, "afte"),
    ("step", "x", 1, None), ("step", "x", 1, 1), ("step", "x", 1, ["after"]), ("step", "x", 1, ("after",)),
    ("step", "x", 1, "after\n"), ("step", "x", 1, True), ("step", "x", "after", 1),
    ["op", "+", 1, 2], ("op", "+", 1), ("op", "+", 1, 2, 3), ("op",), ("op", "+"), ("op", "", 1, 2), ("op", "/", 1, 2),
    ("op", ">", 1, 2), ("op", "++", 1, 2), ("op", "+-", 1, 2), ("op", "+-*<", 1, 2), ("op", ("+",), 1, 2),
    ("op", ["+"], 1, 2), ("op", None, 1, 2), ("op", 1, 2, 3), ("op", True, 1, 2), ("op", "&&", 1, 2),
    ["call", "k", ()], ("call",), ("call", "k"), ("call", "k", (), ()), ("call", "k", []), ("call", "k", None),
    ("call", "k", 0), ("call", "k", ""), ("call", "k", (1,)), ("call", "k", {}), ("call", "f", ()), ("call", "f", [1]),
    ("call", "f", 1), ("call", "f", (1, 2)), ("call", "f", "x"), ("call", "g", "xy"), ("call", "g", [1, 2]),
    ("call", "g", (1,)), ("call", "g", (1, 2, 3)), ("call", "h", (1, 2)), ("call", "h", (1, 2, 3, 4)), ("call", "h", 3),
    ("call", "z", ()), ("call", "F", (1,)), ("call", "", ()), ("call", None, ()), ("call", 0, ()), ("call", True, ()),
    ("call", ["k"], ()), ("call", ("k",), ()), ("call", "k\n", ()), ("call", "f", 1, 2), ("call", "g", 1, 2),
    ["then", 1, 2], ("then", 1), ("then", 1, 2, 3), ("then",), ["and", 1, 2], ("and", 1), ("and", 1, 2, 3), ("and",),
    ["or", 1, 2], ("or", 1), ("or", 1, 2, 3), ("or",), ["choose", 1, 2, 3], ("choose", 1, 2), ("choose", 1, 2, 3, 4),
    ("choose",), ("choose", 1),
]

# The ways into an expression: a maker of a whole one from the node within, and the path of that node.
WITHIN = [
    (lambda e: ("store", "x", e), (0,)),
    (lambda e: ("op", "+", e, 1), (0,)),
    (lambda e: ("op", "*", 1, e), (1,)),
    (lambda e: ("call", "f", (e,)), (0,)),
    (lambda e: ("call", "g", (1, e)), (1,)),
    (lambda e: ("call", "h", (1, 2, e)), (2,)),
    (lambda e: ("then", e, 1), (0,)),
    (lambda e: ("then", 1, e), (1,)),
    (lambda e: ("and", e, 1), (0,)),
    (lambda e: ("and", 1, e), (1,)),
    (lambda e: ("or", e, 1), (0,)),
    (lambda e: ("or", 1, e), (1,)),
    (lambda e: ("choose", e, 1, 2), (0,)),
    (lambda e: ("choose", 1, e, 2), (1,)),
    (lambda e: ("choose", 1, 2, e), (2,)),
    (lambda e: ("then", X, ("choose", 1, ("call", "h", (1, ("op", "-", X, ("store", "y", e)), 3)), 2)),
     (1, 1, 1, 1, 0)),
]


def no_expression(*path):
    return "NoExpression", {"path": path}


class Forms(unittest.TestCase):
    def test_right_ones(self):
        for value in RIGHT:
            self.assertEqual(Task(BOOK, value).expression, value)

    def test_right_ones_within(self):
        for value in RIGHT:
            for make, path in WITHIN:
                self.assertEqual(Task(BOOK, make(value)).node(path), value)

    def test_wrong_ones(self):
        for value in WRONG:
            self.assertEqual(told(Task, BOOK, value), no_expression(), value)

    def test_wrong_ones_within(self):
        for value in WRONG:
            for make, path in WITHIN:
                self.assertEqual(told(Task, BOOK, make(value)), no_expression(*path), value)

    def test_wrong_operands_do_not_make_a_node_wrong_or_right(self):
        for value in (-1, None, [], True, "x"):
            self.assertEqual(told(Task, BOOK, ("op", "+", value, value)), no_expression(0))
            self.assertEqual(told(Task, BOOK, ("op", "/", value, value)), no_expression())
            self.assertEqual(told(Task, BOOK, ("call", "g", (1, value))), no_expression(1))
            self.assertEqual(told(Task, BOOK, ("call", "g", (value, value, value))), no_expression())
            self.assertEqual(told(Task, BOOK, ("store", "X", value)), no_expression())
            self.assertEqual(told(Task, BOOK, ("choose", value, value)), no_expression())

    def test_any_value(self):
        right = [0, 1, 2, 6, 999999, X]
        for value in any_values():
            is_right = any(value == one and type(value) == type(one) for one in right)
            self.assertEqual(told(Task, BOOK, value), None if is_right else no_expression())
            self.assertEqual(told(Task, BOOK, ("then", 1, value)), None if is_right else no_expression(1))

    def test_any_value_in_each_place(self):
        for form in RIGHT:
            if isinstance(form, int):
                continue
            for at in range(len(form)):
                for value in any_values():
                    changed = (*form[:at], value, *form[at + 1:])
                    found = told(Task, BOOK, changed)
                    if changed == form and repr(changed) == repr(form):
                        self.assertIsNone(found)
                    elif found is not None:
                        self.assertEqual(found[0], "NoExpression")

    def test_a_list_in_the_place_of_a_tuple(self):
        self.assertEqual(told(Task, BOOK, ("then", 1, ("op", "+", 1, ["op", "+", 1, 2]))), no_expression(1, 1))
        self.assertEqual(told(Task, BOOK, ("then", 1, ("call", "g", [1, 2]))), no_expression(1))

    def test_true_and_false_are_no_integers(self):
        self.assertEqual(told(Task, BOOK, ("op", "+", 1, True)), no_expression(1))
        self.assertEqual(told(Task, BOOK, ("op", "+", False, True)), no_expression(0))
        self.assertEqual(told(Task, BOOK, ("call", "h", (1, 0, False))), no_expression(2))
        self.assertEqual(told(Task, BOOK, ("op", "+", 1, ("step", "x", True, "after"))), no_expression(1))

    def test_the_book_decides_which_calls_are_right(self):
        self.assertEqual(told(Task, Book(), ("call", "k", ())), no_expression())
        self.assertEqual(told(Task, Book(Function("k", 1)), ("call", "k", ())), no_expression())
        self.assertIsNone(told(Task, Book(Function("k", 1)), ("call", "k", (1,))))
        self.assertIsNone(told(Task, Book(), ("op", "+", X, ("step", "k", 1, "after"))))

    def test_terms_that_are_no_integers_are_no_expressions(self):
        for term in (("first", "x"), ("+", 1, 2), ("-", 1, 2), ("*", 1, 2), ("<", 1, 2), ("value", "k", ()),
                     ("left", "h", "x", (1, 2, 3)), -1, 1000000):
            self.assertEqual(told(Task, BOOK, term), no_expression())

    def test_expressions_are_not_computed(self):
        self.assertEqual(Task(BOOK, ("op", "+", 1, 2)).expression, ("op", "+", 1, 2))
        self.assertNotEqual(Task(BOOK, ("op", "+", 1, 2)), Task(BOOK, 3))


class FirstWrongNode(unittest.TestCase):
    def test_first_in_preorder(self):
        wrong = ("op", "/", None, None)
        self.assertEqual(told(Task, BOOK, ("op", "/", wrong, wrong)), no_expression())
        self.assertEqual(told(Task, BOOK, ("op", "+", wrong, wrong)), no_expression(0))
        self.assertEqual(told(Task, BOOK, ("op", "+", 1, wrong)), no_expression(1))
        self.assertEqual(told(Task, BOOK, ("op", "+", ("store", "x", wrong), wrong)), no_expression(0, 0))
        self.assertEqual(told(Task, BOOK, ("op", "+", ("store", "x", 1), wrong)), no_expression(1))
        self.assertEqual(told(Task, BOOK, ("choose", ("then", 1, wrong), wrong, wrong)), no_expression(0, 1))
        self.assertEqual(told(Task, BOOK, ("choose", 1, ("and", 1, ("or", wrong, wrong)), wrong)),
                         no_expression(1, 1, 0))
        self.assertEqual(told(Task, BOOK, ("call", "h", (1, ("call", "g", (1, wrong)), wrong))), no_expression(1, 1))
        self.assertEqual(told(Task, BOOK, ("call", "h", (1, ("call", "g", (1,)), wrong))), no_expression(1))

    def test_deep_within(self):
        value = -1
        for _ in range(75):
            value = ("store", "x", value)
        self.assertEqual(told(Task, BOOK, value), no_expression(*[0] * 75))

    def test_many_nodes_ahead(self):
        value = None
        for _ in range(70):
            value = ("choose", ("op", "+", 1, 2), ("op", "+", X, X), value)
        self.assertEqual(told(Task, BOOK, value), no_expression(*[2] * 70))


if __name__ == "__main__":
    unittest.main()
