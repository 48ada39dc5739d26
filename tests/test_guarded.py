"""The head of "The interface": Guarded ahead of every other error, with the path of the first guard in preorder."""

import unittest

from ordersopen import classes, compare, orders, papers, points, results, steps
from ordersopen.tasks import Task
from tests.helper import WIDE, any_values, drawn_tasks, in_parallel, node_of, rows_of, told

X = ("read", "x")
AND = ("and", 1, X)
OR = ("or", X, 1)
CHOOSE = ("choose", X, 1, 2)

# (expression, path of its first guard in preorder)
FIRST = [
    (AND, ()),
    (OR, ()),
    (CHOOSE, ()),
    (("and", 1, 2), ()),
    (("choose", 1, 2, 3), ()),
    (("or", AND, CHOOSE), ()),
    (("op", "+", AND, OR), (0,)),
    (("op", "+", X, OR), (1,)),
    (("op", "+", ("op", "+", X, CHOOSE), OR), (0, 1)),
    (("op", "+", ("op", "+", X, ("choose", AND, OR, 1)), OR), (0, 1)),
    (("then", ("store", "x", 1), AND), (1,)),
    (("store", "x", ("store", "y", OR)), (0, 0)),
    (("call", "f", (CHOOSE,)), (0,)),
    (("call", "h", (1, ("call", "g", (2, AND)), OR)), (1, 1)),
    (("choose", 1, AND, ("op", "+", OR, OR)), ()),
]

OF_ONE_VALUE = [
    orders.is_order, orders.order_at, orders.number_of, results.result, results.sources, results.live_steps,
    results.trace, classes.is_class, classes.class_of, classes.least_order, classes.orders_in, classes.flippable,
    lambda task, value: classes.flipped(task, value, value), lambda task, value: classes.flipped(task, (), value),
    lambda task, value: classes.flip_path(task, value, value), lambda task, value: classes.flip_path(task, (), value),
    points.need_order, lambda task, value: papers.path_paper(task, value, value),
    lambda task, value: papers.path_paper(task, (), value),
]
OF_A_TASK = [
    orders.count_orders, results.all_results, classes.count_classes, lambda task: list(classes.classes(task)),
    lambda task: list(classes.classes(task, most=0)), points.agree, points.are_steady, points.disagreement,
    points.needed, points.fewest, lambda task: compare.apart(task, task),
    lambda task: compare.apart(Task(WIDE, 1), task), papers.agreement_paper, papers.fewest_paper,
    lambda task: papers.likeness_paper(task, task), lambda task: papers.likeness_paper(Task(WIDE, 1), task),
]


class Guarded(unittest.TestCase):
    def test_the_first_guard_in_preorder(self):
        for expression, path in FIRST:
            task = Task(WIDE, expression)
            expected = ("Guarded", {"path": path})
            for call in OF_A_TASK:
                self.assertEqual(told(call, task), expected, expression)
            for call in OF_ONE_VALUE:
                for value in (None, (), 0, tuple(range(len(task)))):
                    self.assertEqual(told(call, task, value), expected, (expression, value))

    def test_ahead_of_every_other_error_and_answer(self):
        for expression, path in FIRST[:3]:
            for call in OF_ONE_VALUE:
                for value in any_values():
                    self.assertEqual(told(call, Task(WIDE, expression), value), ("Guarded", {"path": path}))

    def test_ahead_of_too_many(self):
        task = Task(WIDE, ("op", "+", in_parallel(*["X"] * 7), ("op", "+", X, AND)))
        for call in OF_A_TASK:
            self.assertEqual(told(call, task), ("Guarded", {"path": (1, 1)}))

    def test_ahead_of_too_many_open_nodes(self):
        task = Task(WIDE, ("op", "+", in_parallel(*["x"] * 10), AND))
        self.assertGreater(len(task.open_nodes()), 8)
        for call in OF_A_TASK:
            self.assertEqual(told(call, task), ("Guarded", {"path": (1,)}))

    def test_tasks_without_guards(self):
        for task in drawn_tasks(51, 40, 5):
            for call in OF_A_TASK:
                self.assertIsNone(told(call, task))

    def test_drawn_tasks(self):
        found = 0
        for task in drawn_tasks(52, 200, 8, guards=True):
            guards = [path for path in task.nodes() if not isinstance(node_of(task.expression, path), int)
                      and node_of(task.expression, path)[0] in ("and", "or", "choose")]
            expected = ("Guarded", {"path": guards[0]}) if guards else None
            self.assertEqual(told(orders.count_orders, task), expected)
            found += 1 if guards else 0
        self.assertGreater(found, 50)

    def test_steps_precedes_and_races_take_guards(self):
        for expression, path in FIRST:
            task = Task(WIDE, expression)
            self.assertEqual(steps.steps(task), rows_of(WIDE, expression))
            self.assertIsNone(told(steps.races, task))
            if len(task) > 0:
                self.assertIs(steps.precedes(task, 0, 0), False)

    def test_the_generator_is_made_before_it_raises(self):
        rows = classes.classes(Task(WIDE, CHOOSE))
        self.assertEqual(told(next, rows), ("Guarded", {"path": ()}))


if __name__ == "__main__":
    unittest.main()
