"""Promises [8] and [9]: steps and their numbers, which precede or exclude each other, and which race."""

import unittest

from ordersopen.functions import Book, Function
from ordersopen.steps import precedes, races, steps
from ordersopen.tasks import Task
from tests.helper import BOOK, WIDE, any_values, drawn_tasks, pairs_of, races_of, relation_of, rows_of, told

X = ("read", "x")
Y = ("read", "y")
AFTER = ("step", "x", 1, "after")
STORE = ("store", "x", 1)
K = ("call", "k", ())
F = ("call", "f", (1,))
N = ("call", "n", ())
M = ("call", "m", (1,))
H = ("call", "h", (1, 2, 3))

# Each form with operands that have no steps: (expression, its steps).
ALONE = [
    (7, []),
    (X, [("read", (), ("x",), ())]),
    (STORE, [("store", (), (), ("x",))]),
    (("step", "y", 1, "before"), [("read", (), ("y",), ()), ("store", (), (), ("y",))]),
    (("step", "y", -1, "before"), [("read", (), ("y",), ()), ("store", (), (), ("y",))]),
    (("step", "y", 1, "after"), [("read", (), ("y",), ()), ("store", (), (), ("y",))]),
    (("step", "y", -1, "after"), [("read", (), ("y",), ()), ("store", (), (), ("y",))]),
    (("op", "+", 1, 2), []),
    (K, [("call", (), (), ())]),
    (F, [("call", (), ("x",), ("y",))]),
    (("call", "g", (1, 2)), [("call", (), (), ())]),
    (H, [("call", (), (), ("x", "y"))]),
    (M, [("call", (), ("x", "y"), ("x", "y"))]),
    (("then", 1, 2), []),
    (("and", 1, 2), []),
    (("or", 1, 2), []),
    (("choose", 1, 2, 3), []),
]

# Each form around one operand: (maker, index of the operand, the node's own steps).
AROUND = [
    (lambda e: ("store", "z", e), 0, [("store", (), (), ("z",))]),
    (lambda e: ("op", "+", e, 1), 0, []),
    (lambda e: ("op", "-", 1, e), 1, []),
    (lambda e: ("call", "f", (e,)), 0, [("call", (), ("x",), ("y",))]),
    (lambda e: ("call", "g", (e, 1)), 0, [("call", (), (), ())]),
    (lambda e: ("call", "g", (1, e)), 1, [("call", (), (), ())]),
    (lambda e: ("call", "h", (1, 2, e)), 2, [("call", (), (), ("x", "y"))]),
    (lambda e: ("then", e, 1), 0, []),
    (lambda e: ("then", 1, e), 1, []),
    (lambda e: ("and", e, 1), 0, []),
    (lambda e: ("and", 1, e), 1, []),
    (lambda e: ("or", e, 1), 0, []),
    (lambda e: ("or", 1, e), 1, []),
    (lambda e: ("choose", e, 1, 2), 0, []),
    (lambda e: ("choose", 1, e, 2), 1, []),
    (lambda e: ("choose", 1, 2, e), 2, []),
]

# (expression, points, the pairs of which the first step precedes the second one)
PRECEDING = [
    (7, (), []),
    (X, (), []),
    (AFTER, (), [(0, 1)]),
    (STORE, (), []),
    (("store", "x", X), (), [(0, 1)]),
    (("store", "x", AFTER), (), [(0, 1), (0, 2), (1, 2)]),
    (("store", "x", ("op", "+", X, Y)), (), [(0, 2), (1, 2)]),
    (("store", "x", ("op", "+", X, Y)), ((0,),), [(0, 1), (0, 2), (1, 2)]),
    (("op", "+", X, Y), (), []),
    (("op", "+", X, Y), ((),), [(0, 1)]),
    (("op", "+", AFTER, AFTER), (), [(0, 1), (2, 3)]),
    (("op", "+", AFTER, AFTER), ((),), pairs_of(4)),
    (("op", "+", ("op", "*", X, Y), X), ((0,),), [(0, 1)]),
    (("op", "+", ("op", "*", X, Y), X), ((),), [(0, 2), (1, 2)]),
    (("op", "+", ("op", "*", X, Y), X), ((), (0,)), pairs_of(3)),
    (K, (), []),
    (("call", "f", (X,)), (), [(0, 1)]),
    (("call", "g", (X, Y)), (), [(0, 2), (1, 2)]),
    (("call", "g", (X, Y)), ((),), [(0, 1), (0, 2), (1, 2)]),
    (("call", "h", (X, Y, X)), (), [(0, 3), (1, 3), (2, 3)]),
    (("call", "h", (X, Y, X)), ((),), pairs_of(4)),
    (("call", "h", (1, AFTER, X)), (), [(0, 1), (0, 3), (1, 3), (2, 3)]),
    (("call", "h", (("op", "+", X, X), 1, Y)), ((),), [(0, 2), (0, 3), (1, 2), (1, 3), (2, 3)]),
    (("then", X, Y), (), [(0, 1)]),
    (("then", ("op", "+", X, Y), ("op", "*", X, Y)), (), [(0, 2), (0, 3), (1, 2), (1, 3)]),
    (("op", "+", ("then", X, Y), ("then", X, Y)), (), [(0, 1), (2, 3)]),
    (("and", X, Y), (), [(0, 1)]),
    (("or", AFTER, Y), (), [(0, 1), (0, 2), (1, 2)]),
    (("and", ("op", "+", X, Y), ("op", "+", X, Y)), (), [(0, 2), (0, 3), (1, 2), (1, 3)]),
    (("choose", X, Y, X), (), [(0, 1), (0, 2)]),
    (("choose", 1, X, Y), (), []),
    (("choose", X, AFTER, AFTER), (), [(0, 1), (0, 2), (0, 3), (0, 4), (1, 2), (3, 4)]),
    (("choose", ("op", "+", X, Y), ("then", X, Y), X), (), [(0, 2), (0, 3), (0, 4), (1, 2), (1, 3), (1, 4), (2, 3)]),
    (("store", "x", ("choose", X, Y, X)), (), [(0, 1), (0, 2), (0, 3), (1, 3), (2, 3)]),
    (("then", ("choose", X, Y, X), Y), (), [(0, 1), (0, 2), (0, 3), (1, 3), (2, 3)]),
    (("then", Y, ("choose", X, Y, X)), (), [(0, 1), (0, 2), (0, 3), (1, 2), (1, 3)]),
    (("op", "+", ("choose", X, Y, X), Y), (), [(0, 1), (0, 2)]),
    (("op", "+", ("choose", X, Y, X), Y), ((),), [(0, 1), (0, 2), (0, 3), (1, 3), (2, 3)]),
    (("choose", X, ("op", "+", X, Y), Y), ((1,),), [(0, 1), (0, 2), (0, 3), (1, 2)]),
    (("choose", 1, ("choose", X, Y, X), ("and", X, Y)), (), [(0, 1), (0, 2), (3, 4)]),
]

# (expression, points, its races)
RACING = [
    (X, (), []),
    (AFTER, (), []),
    (("op", "+", STORE, X), (), [(0, 1)]),
    (("op", "+", X, STORE), (), [(0, 1)]),
    (("op", "+", STORE, STORE), (), [(0, 1)]),
    (("op", "+", X, X), (), []),
    (("op", "+", STORE, Y), (), []),
    (("op", "+", STORE, ("store", "y", 1)), (), []),
    (("op", "+", STORE, X), ((),), []),
    (("then", STORE, X), (), []),
    (("store", "x", X), (), []),
    (("op", "+", AFTER, X), (), [(1, 2)]),
    (("op", "+", X, AFTER), (), [(0, 2)]),
    (("op", "+", AFTER, STORE), (), [(0, 2), (1, 2)]),
    (("op", "+", AFTER, AFTER), (), [(0, 3), (1, 2), (1, 3)]),
    (("op", "+", AFTER, AFTER), ((),), []),
    (("op", "+", AFTER, ("step", "y", 1, "before")), (), []),
    (("call", "g", (STORE, X)), (), [(0, 1)]),
    (("call", "g", (STORE, X)), ((),), []),
    (("call", "h", (STORE, STORE, STORE)), (), [(0, 1), (0, 2), (1, 2)]),
    (("call", "h", (X, STORE, X)), (), [(0, 1), (1, 2)]),
    (("call", "f", (STORE,)), (), []),
    (("op", "+", F, F), (), [(0, 1)]),
    (("op", "+", F, X), (), []),
    (("op", "+", F, Y), (), [(0, 1)]),
    (("op", "+", F, STORE), (), [(0, 1)]),
    (("op", "+", F, ("store", "y", 1)), (), [(0, 1)]),
    (("op", "+", F, ("store", "z", 1)), (), []),
    (("op", "+", K, K), (), []),
    (("op", "+", K, STORE), (), []),
    (("op", "+", H, X), (), [(0, 1)]),
    (("op", "+", H, F), (), [(0, 1)]),
    (("op", "+", N, N), (), [(0, 1)]),
    (("op", "+", N, X), (), []),
    (("op", "+", M, N), (), [(0, 1)]),
    (("op", "+", ("op", "*", STORE, X), X), (), [(0, 1), (0, 2)]),
    (("op", "+", ("op", "*", STORE, X), X), ((0,),), [(0, 2)]),
    (("op", "+", ("op", "*", STORE, X), X), ((),), [(0, 1)]),
    (("op", "+", ("op", "*", STORE, X), X), ((), (0,)), []),
    (("and", STORE, X), (), []),
    (("or", STORE, X), (), []),
    (("choose", X, STORE, STORE), (), []),
    (("op", "+", ("choose", X, STORE, ("store", "x", 2)), X), (), [(1, 3), (2, 3)]),
    (("op", "+", STORE, ("choose", X, STORE, X)), (), [(0, 1), (0, 2), (0, 3)]),
    (("op", "+", ("choose", X, STORE, STORE), X), ((),), []),
    (("op", "+", ("and", X, STORE), ("or", X, STORE)), (), [(0, 3), (1, 2), (1, 3)]),
    (("and", 1, ("op", "+", STORE, X)), (), [(0, 1)]),
    (("choose", 1, ("op", "+", STORE, X), ("op", "+", X, STORE)), (), [(0, 1), (2, 3)]),
]


class Steps(unittest.TestCase):
    def test_each_form_alone(self):
        for expression, expected in ALONE:
            self.assertEqual(steps(Task(WIDE, expression)), expected)

    def test_each_form_as_an_operand_of_each_other_form(self):
        for maker, at, own in AROUND:
            for inner, expected in ALONE:
                below = [(kind, (at, *path), reads, stores) for kind, path, reads, stores in expected]
                self.assertEqual(steps(Task(WIDE, maker(inner))), below + own)

    def test_operands_in_order_ahead_of_the_own_step(self):
        expression = ("store", "z", ("call", "h", (AFTER, ("op", "+", Y, F), ("then", K, X))))
        self.assertEqual(steps(Task(BOOK, expression)), [
            ("read", (0, 0), ("x",), ()), ("store", (0, 0), (), ("x",)), ("read", (0, 1, 0), ("y",), ()),
            ("call", (0, 1, 1), ("x",), ("y",)), ("call", (0, 2, 0), (), ()), ("read", (0, 2, 1), ("x",), ()),
            ("call", (0,), (), ("x", "y")), ("store", (), (), ("z",))])

    def test_the_steps_of_both_branches(self):
        expression = ("choose", X, ("and", Y, STORE), ("or", AFTER, K))
        self.assertEqual(steps(Task(BOOK, expression)), [
            ("read", (0,), ("x",), ()), ("read", (1, 0), ("y",), ()), ("store", (1, 1), (), ("x",)),
            ("read", (2, 0), ("x",), ()), ("store", (2, 0), (), ("x",)), ("call", (2, 1), (), ())])

    def test_a_call_with_four_places(self):
        book = Book(Function("w", reads=("a", "b", "c", "d"), stores=("b", "c", "d", "e")), Function("v", 3))
        self.assertEqual(steps(Task(book, ("call", "v", (1, ("call", "w", ()), 2)))),
                         [("call", (1,), ("a", "b", "c", "d"), ("b", "c", "d", "e")), ("call", (), (), ())])

    def test_points_change_no_numbers(self):
        for task in drawn_tasks(1, 30, 8, guards=True):
            self.assertEqual(steps(task.with_points(*task.open_nodes())), steps(Task(WIDE, task.expression)))

    def test_drawn_tasks(self):
        for task in drawn_tasks(2, 200, 12, guards=True):
            self.assertEqual(steps(task), rows_of(WIDE, task.expression), str(task))
            self.assertEqual(len(steps(task)), len(task))

    def test_as_large_as_tasks_are(self):
        expression = AFTER
        for _ in range(6):
            expression = ("op", "+", expression, expression)
        task = Task(BOOK, ("op", "-", expression, ("call", "h", (expression[2], 1, 2))))
        self.assertEqual((len(task.nodes()), len(steps(task))), (194, 193))
        self.assertEqual(steps(task), rows_of(BOOK, task.expression))
        deep = X
        for _ in range(29):
            deep = ("store", "x", deep)
        self.assertEqual(steps(Task(BOOK, deep))[0], ("read", (0,) * 29, ("x",), ()))
        self.assertEqual(steps(Task(BOOK, deep))[29], ("store", (), (), ("x",)))


class Precedes(unittest.TestCase):
    def test_all_pairs_of_each_form_at_the_root(self):
        for expression, points, expected in PRECEDING:
            task = Task(BOOK, expression, points=points)
            for one in range(len(task)):
                for other in range(len(task)):
                    self.assertIs(precedes(task, one, other), (one, other) in expected, (str(task), one, other))

    def test_a_step_and_itself(self):
        for task in drawn_tasks(3, 20, 6, guards=True):
            for step in range(len(task)):
                self.assertIs(precedes(task, step, step), False)

    def test_branches_exclude_each_other(self):
        task = Task(BOOK, ("choose", 1, ("store", "x", X), ("store", "x", X)))
        for one, other in ((0, 2), (0, 3), (1, 2), (1, 3)):
            self.assertIs(precedes(task, one, other), False)
            self.assertIs(precedes(task, other, one), False)

    def test_drawn_tasks(self):
        for task in drawn_tasks(4, 100, 10, guards=True):
            rows = rows_of(WIDE, task.expression)
            for one in range(len(rows)):
                for other in range(len(rows)):
                    expected = one != other and relation_of(task, rows, one, other) == "ahead"
                    self.assertIs(precedes(task, one, other), expected, (str(task), one, other))

    def test_no_step(self):
        task = Task(BOOK, ("op", "+", AFTER, AFTER))
        for value in [*any_values(), 3, 4, 5, -2, "0", (0, 1), 1.0, None, {}]:
            right = repr(value) in ("0", "1", "2", "3")
            expected = None if right else ("NoStep", {"step": value})
            self.assertEqual(told(precedes, task, value, 0), expected)
            self.assertEqual(told(precedes, task, 0, value), expected)
            self.assertEqual(told(precedes, task, value, value), expected)
            self.assertEqual(told(precedes, task, value, -1), expected or ("NoStep", {"step": -1}))
            self.assertEqual(told(precedes, task, 4, value), ("NoStep", {"step": 4}))

    def test_no_step_keeps_true_and_false(self):
        task = Task(BOOK, ("op", "+", AFTER, AFTER))
        for value in (True, False):
            for given in ((value, 0), (0, value), (value, value), (value, -1)):
                name, fields = told(precedes, task, *given)
                self.assertEqual(name, "NoStep")
                self.assertIs(fields["step"], value)

    def test_tasks_without_steps(self):
        self.assertEqual(told(precedes, Task(BOOK, 7), 0, 0), ("NoStep", {"step": 0}))
        self.assertEqual(told(precedes, Task(BOOK, ("op", "+", 1, 2)), 1, 0), ("NoStep", {"step": 1}))


class Races(unittest.TestCase):
    def test_by_hand(self):
        for expression, points, expected in RACING:
            self.assertEqual(races(Task(WIDE, expression, points=points)), expected, (expression, points))

    def test_calls_with_several_places(self):
        book = Book(Function("v", reads=("a", "b"), stores=("c", "d")), Function("w", reads=("d", "e")),
                    Function("u", reads=("a", "b", "e")), Function("t", stores=("b", "e")))
        for one, other, expected in (("v", "v", True), ("v", "w", True), ("v", "u", False), ("v", "t", True),
                                     ("w", "w", False), ("w", "u", False), ("w", "t", True), ("u", "t", True),
                                     ("u", "u", False), ("t", "t", True)):
            for first, second in ((one, other), (other, one)):
                task = Task(book, ("op", "+", ("call", first, ()), ("call", second, ())))
                self.assertEqual(races(task), [(0, 1)] if expected else [])

    def test_drawn_tasks(self):
        for task in drawn_tasks(5, 200, 12, guards=True):
            self.assertEqual(races(task), races_of(task), str(task))

    def test_ascending_with_many_steps(self):
        expression = STORE
        for _ in range(11):
            expression = ("op", "+", expression, STORE)
        self.assertEqual(races(Task(BOOK, expression)), pairs_of(12))

    def test_what_a_point_more_takes_away(self):
        for task in drawn_tasks(6, 60, 8, guards=True):
            for path in task.open_nodes():
                gone = [pair for pair in races(task) if pair not in races(task.with_points(path))]
                rows = steps(task)
                through = [(one, other) for one, other in races(task)
                           if rows[one][1][:len(path)] == rows[other][1][:len(path)] == path
                           and rows[one][1][len(path):][:1] != rows[other][1][len(path):][:1]]
                self.assertEqual(gone, through)


class General(unittest.TestCase):
    def test_lists_are_new(self):
        task = Task(BOOK, ("op", "+", AFTER, AFTER))
        expected = steps(task), races(task)
        steps(task).clear()
        steps(task)[0] = 1
        races(task).append(1)
        self.assertEqual((steps(task), races(task)), expected)
        self.assertEqual((steps(Task(BOOK, task.expression)), races(Task(BOOK, task.expression))), expected)

    def test_tuples_within(self):
        for task in drawn_tasks(7, 20, 6, guards=True):
            for row in steps(task):
                self.assertEqual([type(part) for part in row], [str, tuple, tuple, tuple])
            for pair in races(task):
                self.assertEqual([type(step) for step in pair], [int, int])

    def test_arguments_by_name(self):
        task = Task(BOOK, ("op", "+", AFTER, AFTER))
        self.assertEqual(len(steps(task=task)), 4)
        self.assertEqual(races(task=task), [(0, 3), (1, 2), (1, 3)])
        self.assertIs(precedes(other=1, one=0, task=task), True)

    def test_the_task_stays(self):
        task = Task(BOOK, ("op", "+", AFTER, ("choose", X, Y, 1)))
        steps(task), races(task), precedes(task, 0, 1), told(precedes, task, 0, None)
        self.assertEqual(task, Task(BOOK, ("op", "+", AFTER, ("choose", X, Y, 1))))

    def test_a_function_that_is_changed_later_does_not_show(self):
        function = Function("p", reads=("x",))
        book = Book(function)
        task = Task(book, ("call", "p", ()))
        function.reads = ("y",)
        book["p"].reads = ("z",)
        self.assertEqual(steps(task), [("call", (), ("x",), ())])

    def test_the_examples_of_the_document(self):
        book = Book(Function("f", 1, reads=("x",), stores=("y",)), Function("g", 2))
        twice = Task(book, ("op", "+", AFTER, AFTER))
        self.assertEqual(races(twice), [(0, 3), (1, 2), (1, 3)])


if __name__ == "__main__":
    unittest.main()
