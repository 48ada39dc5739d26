"""Two expressions [18], held against the results of all their orders."""

import unittest

from ordersopen.compare import apart
from ordersopen.functions import Book, Function
from ordersopen.results import all_results, result
from ordersopen.tasks import Task
from ordersopen.texts import read_task
from tests.helper import BOOK, CLASSES_500, CLASSES_501, WIDE, done_in, drawn_tasks, orders_of, told


def task_of(text, book=WIDE):
    return read_task(book, text)


def expected(one, other):
    """What `apart` returns, by all orders."""
    ones = [(order, done_in(one, order)) for order in orders_of(one)]
    others = [(order, done_in(other, order)) for order in orders_of(other)]
    for which, mine, theirs in ((0, ones, others), (1, others, ones)):
        found = [order for order, shown in mine if shown not in [row[1] for row in theirs]]
        if found:
            return which, min(found)
    return None


class Apart(unittest.TestCase):
    def check(self, one, other, shown):
        one, other = task_of(one), task_of(other)
        self.assertEqual(apart(one, other), shown)
        self.assertEqual(expected(one, other), shown)
        back = apart(other, one)
        self.assertEqual(back, expected(other, one))
        self.assertEqual(back is None, shown is None)
        return back

    def test_same_results_by_other_steps(self):
        for one, other in [
            ("x", "x"), ("1", "((x, y), 1)"), ("(x++ + 1)", "(x++ +; 1)"), ("(x = (x + 1))", "++x"),
            ("((x = 1) + (y = 2))", "((y, (x = 1)) +; (y = 2))"), ("((x = 1) * (x = 1))", "((x = 1) *; (x = 1))"),
            ("(x, (y = 2))", "(y = 2)"), ("g(x, y)", "g((y, x); y)"), ("(x = x)", "x"), ("(x++ + x++)", "(x++ + x++)"),
        ]:
            self.check(one, other, None)

    def test_one_result_more(self):
        self.assertEqual(self.check("(x++ + x)", "(x++ +; x)", (0, (0, 2, 1))), (1, (0, 2, 1)))
        self.assertEqual(self.check("((x = 1) + x)", "((x = 1) +; x)", (0, (1, 0))), (1, (1, 0)))

    def test_results_of_their_own_in_both(self):
        self.assertEqual(self.check("(x++ + x)", "(x + x++)", (0, (0, 1, 2))), (0, (1, 2, 0)))
        self.assertEqual(self.check("1", "2", (0, ())), (0, ()))
        self.assertEqual(self.check("x", "y", (0, (0,))), (0, (0,)))
        self.assertEqual(self.check("((x = 1) + x)", "((x = 1) + (y, x))", None), None)
        self.check("(x = 1)", "(y = 1)", (0, (0,)))

    def test_results_that_differ_in_one_place_or_value_alone(self):
        self.check("((x = 1), 7)", "((x = 2), 7)", (0, (0,)))
        self.check("((x = 1), 7)", "((x = 1), 8)", (0, (0,)))
        self.check("(1 + 2)", "(2 + 1)", (0, ()))
        self.check("(1 + 2)", "3", (0, ()))
        self.check("k()", "n()", (0, (0,)))
        self.check("x++", "--x", (0, (0, 1)))
        self.check("((1 + 2) + 3)", "(1 + (2 + 3))", (0, ()))

    def test_the_least_order(self):
        task = task_of("((y = 1) + ((x = 1) + x))")
        fixed = task_of("((y = 1) + ((x = 1) +; x))")
        self.assertEqual(apart(task, fixed), (0, (0, 2, 1)))
        self.assertEqual(apart(fixed, task), (1, (0, 2, 1)))
        one, other = task_of("(x++ + x++)"), task_of("(x++ +; x++)")
        self.assertEqual(apart(one, other), (0, (0, 2, 1, 3)))
        self.assertEqual(result(one, (0, 2, 1, 3)), min(all_results(one)[1:], key=lambda row: row[1])[0])

    def test_drawn_tasks_by_all_orders(self):
        kinds = set()
        tasks = drawn_tasks(71, 60, 5)
        for one, other in zip(tasks, tasks[1:]):
            self.assertEqual(apart(one, other), expected(one, other))
        for task in tasks:
            for path in task.open_nodes():
                for one, other in ((task, task.with_points(path)), (task.with_points(path), task)):
                    shown = apart(one, other)
                    self.assertEqual(shown, expected(one, other), str(task))
                    kinds.add(None if shown is None else shown[0])
            self.assertIsNone(apart(task, Task(WIDE, task.expression, points=task.points)))
        self.assertEqual(kinds, {None, 0, 1})


class Errors(unittest.TestCase):
    def test_books_with_equal_functions_in_another_order(self):
        one = Book(Function("f", 1, reads=("x",)), Function("g"))
        other = Book(Function("g"), Function("f", 1, reads=("x",)))
        self.assertIsNone(apart(task_of("f(g())", one), task_of("f(g())", other)))
        self.assertEqual(apart(task_of("f(g())", one), task_of("g()", other)), (0, (0, 1)))

    def test_books_that_are_not_equal(self):
        book = Book(Function("f", 1, reads=("x",)))
        for other in [Book(), Book(Function("f", 1)), Book(Function("f", 1, reads=("y",))), BOOK,
                      Book(Function("f", 1, reads=("x",), stores=("x",))), Book(Function("f", 0, reads=("x",))),
                      Book(Function("f", 1, reads=("x",)), Function("g"))]:
            self.assertEqual(told(apart, task_of("1", book), task_of("1", other)), ("Unlike", {}))
            self.assertEqual(told(apart, task_of("1", other), task_of("1", book)), ("Unlike", {}))

    def test_order_of_the_errors(self):
        first, second, plain = task_of("(1 + (x && y))"), task_of("(x ? y : 1)"), task_of("x")
        foreign, guarded = task_of("1", BOOK), task_of("g((1 || 2), 1)", BOOK)
        many = Task(WIDE, CLASSES_501)
        for other in (first, second, plain, foreign, guarded, many):
            self.assertEqual(told(apart, first, other), ("Guarded", {"path": (1,)}))
        for one in (plain, foreign, many):
            self.assertEqual(told(apart, one, second), ("Guarded", {"path": ()}))
            self.assertEqual(told(apart, one, guarded), ("Guarded", {"path": (0,)}))
        for one, other in ((plain, foreign), (foreign, plain), (many, foreign), (foreign, many)):
            self.assertEqual(told(apart, one, other), ("Unlike", {}))
        for one, other in ((plain, many), (many, plain), (many, many)):
            self.assertEqual(told(apart, one, other), ("TooMany", {"limit": 500}))

    def test_500_and_501_classes(self):
        task = Task(WIDE, CLASSES_500)
        self.assertIsNone(apart(task, Task(WIDE, CLASSES_500)))
        self.assertEqual(told(apart, task, Task(WIDE, CLASSES_501)), ("TooMany", {"limit": 500}))
        self.assertEqual(told(apart, Task(WIDE, CLASSES_501), task), ("TooMany", {"limit": 500}))
        self.assertEqual(apart(task, task_of("x")), (0, tuple(range(len(task)))))

    def test_by_name_and_without_change(self):
        one, other = task_of("(x++ + x)"), task_of("(x++ +; x)")
        self.assertEqual(apart(other=other, one=one), apart(one, other))
        self.assertEqual((one, other), (task_of("(x++ + x)"), task_of("(x++ +; x)")))


if __name__ == "__main__":
    unittest.main()
