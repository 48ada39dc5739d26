"""Promise [10]: orders, how many there are, and their numbers."""

import math
import unittest

from ordersopen.functions import Book, Function
from ordersopen.orders import count_orders, is_order, number_of, order_at
from ordersopen.tasks import Task
from tests.helper import BOOK, aheads_of, any_values, drawn_tasks, orders_of, told

X = ("read", "x")
Y = ("read", "y")
AFTER = ("step", "x", 1, "after")
STORE = ("store", "x", 1)
TWICE = Task(BOOK, ("op", "+", AFTER, AFTER))

# (expression, points, all orders)
ALL = [
    (7, (), [()]),
    (("op", "+", 1, ("call", "k", ())), (), [(0,)]),
    (X, (), [(0,)]),
    (("call", "k", ()), (), [(0,)]),
    (AFTER, (), [(0, 1)]),
    (("store", "x", X), (), [(0, 1)]),
    (("then", X, Y), (), [(0, 1)]),
    (("op", "+", X, Y), (), [(0, 1), (1, 0)]),
    (("op", "+", X, Y), ((),), [(0, 1)]),
    (("op", "+", 1, 2), (), [()]),
    (("call", "g", (X, Y)), (), [(0, 1, 2), (1, 0, 2)]),
    (("call", "g", (X, Y)), ((),), [(0, 1, 2)]),
    (("call", "h", (X, Y, X)), (),
     [(0, 1, 2, 3), (0, 2, 1, 3), (1, 0, 2, 3), (1, 2, 0, 3), (2, 0, 1, 3), (2, 1, 0, 3)]),
    (("op", "+", AFTER, X), (), [(0, 1, 2), (0, 2, 1), (2, 0, 1)]),
    (("op", "+", AFTER, AFTER), (),
     [(0, 1, 2, 3), (0, 2, 1, 3), (0, 2, 3, 1), (2, 0, 1, 3), (2, 0, 3, 1), (2, 3, 0, 1)]),
    (("then", ("op", "+", X, Y), ("op", "*", X, Y)), (),
     [(0, 1, 2, 3), (0, 1, 3, 2), (1, 0, 2, 3), (1, 0, 3, 2)]),
    (("op", "+", ("op", "*", X, Y), X), ((0,),), [(0, 1, 2), (0, 2, 1), (2, 0, 1)]),
    (("op", "+", ("op", "*", X, Y), X), ((),), [(0, 1, 2), (1, 0, 2)]),
    (("store", "x", ("op", "+", ("then", X, Y), X)), (), [(0, 1, 2, 3), (0, 2, 1, 3), (2, 0, 1, 3)]),
]


def pair_by_pair(many, leaf=X):
    """A number of leaves, joined by operators pair by pair."""
    rows = [leaf] * many
    while len(rows) > 1:
        rows = [("op", "+", *rows[at:at + 2]) if at + 1 < len(rows) else rows[at] for at in range(0, len(rows), 2)]
    return rows[0]


def next_behind(aheads, order):
    """The next greater order, by the steps that can stand at each place; None behind the last one."""
    for kept in reversed(range(len(order))):
        done = set(order[:kept])
        greater = [step for step in sorted(order[kept:]) if step > order[kept] and aheads[step] <= done]
        if greater:
            found = (*order[:kept], greater[0])
            while len(found) < len(order):
                found += (min(step for step in order if step not in found and aheads[step] <= set(found)),)
            return found
    return None


def last_of(aheads):
    """The greatest order, by the greatest step that can stand at each place."""
    found = ()
    while len(found) < len(aheads):
        found += (max(step for step in range(len(aheads)) if step not in found and aheads[step] <= set(found)),)
    return found


def ranked(many, number):
    """The permutation of so many numbers that has this number among all."""
    rest, found = list(range(many)), []
    while rest:
        at, number = divmod(number, math.factorial(len(rest) - 1))
        found.append(rest.pop(at))
    return tuple(found)


class Orders(unittest.TestCase):
    def test_all_orders_by_hand(self):
        for expression, points, expected in ALL:
            task = Task(BOOK, expression, points=points)
            self.assertEqual(count_orders(task), len(expected))
            self.assertEqual([order_at(task, number) for number in range(len(expected))], expected)
            self.assertEqual([number_of(task, order) for order in expected], list(range(len(expected))))
            self.assertEqual(orders_of(task), expected)

    def test_drawn_tasks_against_all_orders(self):
        for task in [*drawn_tasks(11, 150, 6), *drawn_tasks(12, 20, 8)]:
            orders = orders_of(task)
            self.assertEqual(count_orders(task), len(orders), str(task))
            for number, order in enumerate(orders):
                self.assertEqual(order_at(task, number), order, str(task))
                self.assertEqual(number_of(task, order), number, str(task))
                self.assertIs(is_order(task, order), True)

    def test_the_left_first_order_is_the_first(self):
        for task in drawn_tasks(13, 100, 12):
            self.assertEqual(order_at(task, 0), tuple(range(len(task))))
            self.assertEqual(number_of(task, tuple(range(len(task)))), 0)

    def test_all_open_nodes_as_points(self):
        for task in drawn_tasks(14, 50, 12):
            fixed = task.with_points(*task.open_nodes())
            self.assertEqual((count_orders(fixed), order_at(fixed, 0)), (1, tuple(range(len(task)))))
            self.assertEqual(told(order_at, fixed, 1), ("NoNumber", {"number": 1}))

    def test_a_hundred_reads(self):
        task = Task(BOOK, pair_by_pair(100))
        total = math.factorial(100)
        self.assertEqual((len(task), count_orders(task)), (100, total))
        for number in (0, 1, 99, total // 3, total // 2 - 1, total // 2, 10 ** 157, total - 2, total - 1):
            self.assertEqual(order_at(task, number), ranked(100, number))
            self.assertEqual(number_of(task, ranked(100, number)), number)
        self.assertEqual(order_at(task, total - 1), tuple(range(99, -1, -1)))
        self.assertEqual(told(order_at, task, total), ("NoNumber", {"number": total}))

    def test_two_hundred_steps(self):
        task = Task(BOOK, pair_by_pair(100, AFTER))
        total = math.factorial(200) // 2 ** 100
        self.assertEqual((len(task), count_orders(task)), (200, total))
        self.check_numbers(task, total)

    def test_a_number_of_hundreds_of_digits_with_all_forms(self):
        below = ("call", "h", (AFTER, ("then", X, ("store", "y", X)), ("op", "-", AFTER, ("call", "k", ()))))
        task = Task(BOOK, pair_by_pair(14, below))
        points = [path for at, path in enumerate(task.open_nodes()) if at in (3, 9, 20)]
        self.assertEqual(len(task.nodes()), 139)
        for one in (task, task.with_points(*points)):
            total = count_orders(one)
            self.assertGreater(len(str(total)), 100)
            self.check_numbers(one, total)

    def check_numbers(self, task, total):
        aheads = aheads_of(task)
        self.assertEqual(order_at(task, 0), tuple(range(len(task))))
        self.assertEqual(order_at(task, total - 1), last_of(aheads))
        for number in (0, 1, total // 7, total // 2, total - 3, total - 2):
            order = order_at(task, number)
            self.assertIs(is_order(task, order), True)
            self.assertEqual(number_of(task, order), number)
            self.assertEqual(order_at(task, number + 1), next_behind(aheads, order))
        self.assertIsNone(next_behind(aheads, order_at(task, total - 1)))

    def test_the_count_of_three_arguments(self):
        task = Task(BOOK, ("call", "h", (AFTER, ("then", X, AFTER), ("then", AFTER, AFTER))))
        self.assertEqual(count_orders(task), math.factorial(9) // (2 * 6 * 24))


class IsOrder(unittest.TestCase):
    def test_wrong_ones(self):
        for value in ((), (0,), (0, 1, 2), (0, 1, 2, 2), (0, 1, 2, 3, 3), (0, 1, 2, 3, 4), (0, 1, 2, 4), (-1, 0, 1, 2),
                      (0, 1, 3, 2), (1, 0, 2, 3), (3, 2, 1, 0), (2, 3, 1, 0), (1, 2, 3, 0), [0, 1, 2, 3], (0, True, 2, 3),
                      (False, 1, 2, 3), (0, 1, 2, None), (0, 1, 2, "3"), ("0", "1", "2", "3"), "0123", 0, 6, None, True,
                      False, ((0, 1, 2, 3),), (0, 1, (2, 3)), (0, 1, 2, (3,)), (0, 1, 2, [3]), {0: 1}, 1.0,
                      (0, 1, 2, 3.0), (0, 1, 2, 10 ** 39), (0, 1, 2, -(10 ** 39)), (0, 0, 1, 1)):
            self.assertIs(is_order(TWICE, value), False, value)

    def test_any_value(self):
        tasks = {7: [()], X: [(0,)], ("op", "+", X, Y): [(0, 1), (1, 0)]}
        for expression, right in tasks.items():
            for value in [*any_values(), (0, 1), (1, 0)]:
                expected = repr(value) in [repr(order) for order in right]
                self.assertIs(is_order(Task(BOOK, expression), value), expected, value)

    def test_left_out_doubled_exchanged(self):
        for task in drawn_tasks(15, 40, 6):
            orders = orders_of(task)
            for order in orders[:20]:
                for at in range(len(order)):
                    self.assertIs(is_order(task, order[:at] + order[at + 1:]), False)
                    self.assertIs(is_order(task, order[:at] + order[at:at + 1] + order[at:]), False)
                    self.assertIs(is_order(task, (*order[:at], order[at - 1], *order[at + 1:])), False)
                for at in range(len(order) - 1):
                    exchanged = (*order[:at], order[at + 1], order[at], *order[at + 2:])
                    self.assertIs(is_order(task, exchanged), exchanged in orders)
                self.assertIs(is_order(task, list(order)), False)


class Errors(unittest.TestCase):
    def test_no_order(self):
        for value in [*any_values(), (0, 1, 2), (0, 1, 3, 2), [0, 1, 2, 3], (0, True, 2, 3), (0, 1, 2, 3, 4), (1, 0, 2, 3)]:
            self.assertEqual(told(number_of, TWICE, value), ("NoOrder", {"order": value}))

    def test_no_order_keeps_no_list_and_true_stays_true(self):
        value = [0, [1]]
        try:
            number_of(TWICE, value)
        except ValueError as error:
            value[1].append(2)
            self.assertEqual(error.order, [0, [1]])
        self.assertIs(told(number_of, TWICE, (0, True, 2, 3))[1]["order"][1], True)

    def test_no_number(self):
        for value in [*any_values(), -1, 6, 7, 10 ** 39, True, False, None, "0", "", (0,), [0], 1.0]:
            right = repr(value) in ("0", "1", "2", "3", "4", "5")
            self.assertEqual(told(order_at, TWICE, value), None if right else ("NoNumber", {"number": value}))
        self.assertIs(told(order_at, TWICE, True)[1]["number"], True)
        self.assertIs(told(order_at, TWICE, False)[1]["number"], False)

    def test_no_number_of_tasks_with_one_order(self):
        for expression in (7, X, AFTER):
            self.assertIsNone(told(order_at, Task(BOOK, expression), 0))
            for number in (-1, 1, True, False, None):
                self.assertEqual(told(order_at, Task(BOOK, expression), number), ("NoNumber", {"number": number}))


class General(unittest.TestCase):
    def test_arguments_by_name(self):
        self.assertIs(is_order(value=(0, 1, 2, 3), task=TWICE), True)
        self.assertEqual(count_orders(task=TWICE), 6)
        self.assertEqual(order_at(number=1, task=TWICE), (0, 2, 1, 3))
        self.assertEqual(number_of(order=(0, 2, 1, 3), task=TWICE), 1)

    def test_the_kinds_of_what_is_returned(self):
        self.assertEqual((type(count_orders(TWICE)), type(order_at(TWICE, 3)), type(number_of(TWICE, (0, 1, 2, 3)))),
                         (int, tuple, int))

    def test_the_task_and_the_value_stay(self):
        value = [0, [1], (2, [3])]
        is_order(TWICE, value), told(number_of, TWICE, value), told(order_at, TWICE, value)
        self.assertEqual(value, [0, [1], (2, [3])])
        self.assertEqual(TWICE, Task(BOOK, ("op", "+", AFTER, AFTER)))
        self.assertEqual([order_at(TWICE, 1), order_at(TWICE, 0), order_at(TWICE, 1)],
                         [(0, 2, 1, 3), (0, 1, 2, 3), (0, 2, 1, 3)])

    def test_the_examples_of_the_document(self):
        book = Book(Function("f", 1, reads=("x",), stores=("y",)), Function("g", 2))
        twice = Task(book, ("op", "+", AFTER, AFTER))
        self.assertEqual([count_orders(twice), order_at(twice, 1)], [6, (0, 2, 1, 3)])


if __name__ == "__main__":
    unittest.main()
