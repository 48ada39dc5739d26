"""Agreement [15], needed points [16] and fewest points [17], held against all orders of small tasks."""

import functools
import itertools
import unittest

from ordersopen.classes import classes, least_order
from ordersopen.points import agree, are_steady, disagreement, fewest, need_order, needed
from ordersopen.results import result, trace
from ordersopen.tasks import Task
from ordersopen.texts import read_task
from tests.helper import (
    CLASSES_500, CLASSES_501, CLASSES_SIXTEEN, WIDE, aheads_of, any_values, classes_in, done_in, drawn_tasks,
    in_parallel, orders_of, races_of, relation_of, rows_of, told, trace_of,
)

# Small tasks of every form, with one to six open nodes.
TEXTS = [
    "7", "x", "x++", "(x = 1)", "k()", "n()", "f(x)", "(1, 2)", "(1 + 2)", "g(1, 2)", "(x = (1 + x))",
    "(x + x)", "(x + y)", "(x++ + x)", "(x++ + x++)", "(x++ +; x++)", "(--x * x--)", "((x = 1) * (x = 1))",
    "((x = 1) * (x = 2))", "((x = 1), (x = 2))", "((x = 1) - (y = 1))", "((x = 1) < x)", "((x = x) + x)",
    "((x, 1) + (x = 1))", "((x + (x = 1)), (x = 2))", "(((x, 1) + (x = 1)), (x = 2))",
    "(((x = 1) + (x = 2)), (x = 3))", "(((x = 1) + (x = 2)), ((x = x), (x = 3)))", "(n() + n())", "(n() +; n())",
    "(m(1) + m(1))", "(m(1) + m(2))", "(m(n()) * n())", "(f(1) + f(1))", "(f(1) + f(2))", "(f(1) + y)", "(f(1) + x)",
    "g((x = 1), x)", "g((x = 1); x)", "g(x, (x = x))", "h(x, (x = 1), x)", "h((x = 1), x, (x = 1))", "h(x; x++; x)",
    "h(x, 1, (y = 2))", "(h(1, 2, 3) + (x = y))", "((x = 1) + (y = (x + 2)))", "((x + (y = 1)) * (y + (x = 2)))",
    "((x +; (y = 1)) * (y + (x = 2)))", "(((x = 1) + (y = 1)) + (x + y))", "(((x = 1) + y) + ((y = 2) + x))",
    "((x = 0) + ((x = 0) + x))", "((y = 1) + ((y = 1) + y))", "(((y = 1) + (y = 0)), ((y = 0) + y))",
    "((y, ((y = 1) + (y = 0))), ((y = 0) + y))", "(((y = y) + (y = 1)), ((y = 1) + (x = y)))",
    "(((x = 1) + (x = x)), (((x = 1) + x) + x))", "((((x + x) + x) + x) + (x = 1))", "(x = (x + (x = x)))",
    "(y, ((x = 0) + ((y = x), ((y = 0) + y))))",
]


def small_tasks():
    drawn = [task for task in drawn_tasks(61, 70, 6) if len(task.open_nodes()) <= 6]
    return [read_task(WIDE, text) for text in TEXTS] + drawn


def all_rows(task):
    """(trace, result) of every order."""
    return {order: (trace_of(task, order)[2], done_in(task, order)) for order in orders_of(task)}


def rows_with(task, rows, chosen):
    """The rows of those orders that remain with these points, too."""
    aheads = aheads_of(task.with_points(*chosen))
    return [row for order, row in rows.items()
            if all(ahead <= set(order[:order.index(step)]) for step, ahead in enumerate(aheads))]


def choices(task):
    """All sets of open nodes, as ascending tuples: those with fewer nodes first, otherwise ascending."""
    nodes = task.open_nodes()
    return [chosen for many in range(len(nodes) + 1) for chosen in itertools.combinations(nodes, many)]


def node_at_which_open(task, rows, one, other):
    """The path of the node at which two different steps are open; None if they are not."""
    if one == other or relation_of(task, rows, min(one, other), max(one, other)) != "open":
        return None
    pairs = itertools.takewhile(lambda pair: pair[0] == pair[1], zip(rows[one][1], rows[other][1]))
    return tuple(at for at, also in pairs)


def needed_by_pairs(task):
    """The second sentence of [16], word by word."""
    rows = rows_of(task.book, task.expression)
    order = tuple(range(len(rows)))
    froms, live, (lasts, sources) = trace_of(task, order)
    found = set()
    for (step, place), source in sources:
        for other in order:
            if place in rows[other][3]:
                found.add(node_at_which_open(task, rows, step, other))
                if source is not None and other < step:
                    found.add(node_at_which_open(task, rows, source, other))
    for place, last in lasts:
        for other in order:
            if place in rows[other][3]:
                found.add(node_at_which_open(task, rows, last, other))
    return tuple(sorted(found - {None}))


class Agreement(unittest.TestCase):
    def test_small_tasks_by_all_orders(self):
        seen = set()
        for task in small_tasks():
            rows = all_rows(task).values()
            agreed, steady = len({row[1] for row in rows}) == 1, len({row[0] for row in rows}) == 1
            self.assertIs(agree(task), agreed, str(task))
            self.assertIs(are_steady(task), steady, str(task))
            self.assertLessEqual(steady, agreed)
            seen.add((agreed, steady))
        self.assertEqual(len(seen), 3)

    def test_disagreement_leads_to_two_results(self):
        found = 0
        for task in small_tasks():
            shown = disagreement(task)
            if agree(task):
                self.assertIsNone(shown, str(task))
                continue
            found += 1
            self.assertIs(type(shown), tuple)
            flips, pair = shown
            by_class = classes_in(task)
            self.assertIn(pair, races_of(task))
            other = tuple(sorted(set(flips) ^ {pair}))
            self.assertIn(flips, by_class)
            self.assertIn(other, by_class)
            self.assertNotEqual(done_in(task, by_class[flips][0]), done_in(task, by_class[other][0]), str(task))
        self.assertGreater(found, 20)

    def test_either_one_result_or_a_flip_that_changes_it(self):
        for task in drawn_tasks(62, 60, 8):
            results = {result(task, least_order(task, flips)) for flips in classes(task)}
            self.assertEqual(agree(task), len(results) == 1)
            self.assertEqual(disagreement(task) is None, len(results) == 1)

    def test_equal_stores_of_one_integer(self):
        task = read_task(WIDE, "((x = 1) * (x = 1))")
        self.assertEqual((agree(task), are_steady(task), disagreement(task)), (True, False, None))

    def test_dead_reads(self):
        task = read_task(WIDE, "((x, 1) + (x = 1))")
        self.assertEqual((agree(task), are_steady(task)), (True, True))
        self.assertEqual(races_of(task), [(0, 1)])

    def test_a_store_hidden_by_a_later_one(self):
        task = read_task(WIDE, "(((x = 1), 1) + (x = 2))")
        self.assertEqual((agree(task), are_steady(task)), (False, False))
        task = read_task(WIDE, "((((x = 1), 1) + ((x = 2), 1)), (x = 3))")
        self.assertEqual((agree(task), are_steady(task)), (True, True))

    def test_calls_that_read_and_store_one_place(self):
        # Both return and leave the same, whichever is first; only the value tells which was.
        self.assertFalse(agree(read_task(WIDE, "(n() + n())")))
        task = read_task(WIDE, "(((n(), 1) + (n(), 1)), y)")
        self.assertEqual((agree(task), are_steady(task)), (True, False))

    def test_examples(self):
        twice = read_task(WIDE, "(x++ + x++)")
        same = read_task(WIDE, "((x = 1) * (x = 1))")
        found = [agree(twice), needed(twice), agree(same), needed(same), fewest(same)]
        self.assertEqual(found, [False, ((),), True, ((),), ()])

    def test_more_than_500_classes(self):
        for call in (agree, disagreement, fewest):
            self.assertEqual(told(call, Task(WIDE, CLASSES_501)), ("TooMany", {"limit": 500}))
            self.assertIsNone(told(call, Task(WIDE, CLASSES_500)))
            self.assertIsNone(told(call, Task(WIDE, CLASSES_SIXTEEN)))
        for call in (are_steady, needed):
            self.assertIsNone(told(call, Task(WIDE, CLASSES_501)))
            self.assertIsNone(told(call, Task(WIDE, in_parallel("XX", *["X"] * 14))))


class Needed(unittest.TestCase):
    def test_definition_by_all_orders_and_all_sets_of_open_nodes(self):
        sizes = set()
        for task in small_tasks():
            rows = all_rows(task)
            steady = [set(chosen) for chosen in choices(task)
                      if len({row[0] for row in rows_with(task, rows, chosen)}) == 1]
            least = set.intersection(*steady)
            self.assertIn(least, steady)
            self.assertEqual(needed(task), tuple(sorted(least)), str(task))
            sizes.add(len(least))
        self.assertLessEqual({0, 1, 2}, sizes)

    def test_the_three_kinds_of_pairs(self):
        for task in [*small_tasks(), *drawn_tasks(63, 150, 16)]:
            self.assertEqual(needed(task), needed_by_pairs(task), str(task))
            self.assertIs(are_steady(task), needed(task) == ())

    def test_each_kind_alone(self):
        for text, expected in [
            ("(x + (x = 1))", ((),)),
            ("((x = 1) + x)", ((),)),
            ("(((x = 1) + (x = 1)), x)", ((0,),)),
            ("(((x = 1) + (x = 2)), ((y = x), (x = 3)))", ((0,),)),
            ("((((x = 1), 0) + ((x = 2), 0)), 3)", ((0,),)),
            ("((((x = 1), 0) + ((x = 2), 0)), (x = 3))", ()),
            ("((x, 1) + (x = 1))", ()),
            ("(x + y)", ()),
            ("(f(1) + (x = 2))", ((),)),
            ("((f(1), 0) + (x = 2))", ((),)),
            ("(((f(1), 0) + (x = 2)), (y = 1))", ()),
        ]:
            self.assertEqual(needed(read_task(WIDE, text)), expected, text)

    def test_points_that_the_task_has_already(self):
        for text, expected in [("(x++ +; x++)", ()), ("((x + (x = 1)) +; x)", ((0,),)), ("((x +; (x = 1)) + x)", ((),)),
                               ("h(x; (x = 1); x)", ()), ("((x +; (x = 1)) +; x)", ())]:
            self.assertEqual(needed(read_task(WIDE, text)), expected, text)
        for task in small_tasks():
            wanted = needed(task)
            for path in wanted:
                with_one = task.with_points(path)
                self.assertEqual(needed(with_one), tuple(one for one in wanted if one != path))
            self.assertTrue(are_steady(task.with_points(*wanted)))

    def test_a_call_with_three_arguments(self):
        for text in ("h(x, 1, (x = 1))", "h((x = 1), 1, x)", "h(1, x, (x = 1))", "h((x = 1), x, 1)"):
            self.assertEqual(needed(read_task(WIDE, text)), ((),), text)
        self.assertEqual(needed(read_task(WIDE, "h(x, 1, (y = 1))")), ())

    def test_sixteen_steps(self):
        task = Task(WIDE, CLASSES_SIXTEEN)
        self.assertEqual((len(task), needed(task)), (16, needed_by_pairs(task)))
        task = read_task(WIDE, "(" * 15 + "x + (x = 1))" + " + x)" * 14)
        self.assertEqual((len(task), len(needed(task))), (16, 15))
        self.check_need_orders(task)

    def check_need_orders(self, task):
        left_first = tuple(range(len(task)))
        for path in needed(task):
            order = need_order(task, path)
            others = [one for one in task.open_nodes() if one != path]
            for step, ahead in enumerate(aheads_of(task.with_points(*others))):
                self.assertLessEqual(ahead, set(order[:order.index(step)]), str(task))
            self.assertEqual(sorted(order), list(left_first))
            self.assertIs(type(order), tuple)
            self.assertNotEqual(trace_of(task, order)[2], trace_of(task, left_first)[2], str(task))
            self.assertNotEqual(trace(task, order), trace(task, left_first))

    def test_need_order(self):
        for task in [*small_tasks(), *drawn_tasks(64, 150, 16)]:
            self.check_need_orders(task)

    def test_no_node(self):
        task = read_task(WIDE, "((x++ + (1 + 2)) - (x++ +; x))")
        self.assertEqual(needed(task), ((),))
        self.assertIsNone(told(need_order, task, ()))
        for path in [(0,), (1,), (0, 1), (0, 0), (2,), (True,), (False,), [], [0], None, "", 0]:
            self.assertEqual(told(need_order, task, path), ("NoNode", {"path": path}))
        for path in any_values():
            if path != ():
                self.assertEqual(told(need_order, task, path), ("NoNode", {"path": path}))
        task = read_task(WIDE, "(x, (x++ + (x++ + 1)))")
        self.assertEqual(needed(task), ((1,),))
        for path in any_values():
            if path != (1,) or path[0] is True:
                self.assertEqual(told(need_order, task, path), ("NoNode", {"path": path}))


class Fewest(unittest.TestCase):
    def test_all_sets_of_open_nodes_by_all_orders(self):
        sizes = set()
        for task in small_tasks():
            rows = all_rows(task)
            agreed = [chosen for chosen in choices(task)
                      if len({row[1] for row in rows_with(task, rows, chosen)}) == 1]
            # Of `choices` the first one is the least of the smallest.
            self.assertEqual(fewest(task), agreed[0], str(task))
            sizes.add(len(agreed[0]))
        self.assertLessEqual({0, 1, 2}, sizes)

    def test_the_least_of_several_sets(self):
        for text, expected, also in [
            ("((x = 0) + ((x = 0) + x))", ((),), ((1,),)),
            ("(((y = 1) + (y = 0)), ((y = 0) + y))", ((0,),), ((1,),)),
            ("(((y = 1) + ((x = y), ((x = 1) + x))) + y)", ((), (0,)), ((), (0, 1, 1))),
        ]:
            task = read_task(WIDE, text)
            self.assertEqual(fewest(task), expected)
            self.assertTrue(agree(task.with_points(*also)))

    def test_fewest_points_that_are_not_among_the_needed_ones(self):
        task = read_task(WIDE, "(((y = 1) + (y = 0)), ((y = 0) + y))")
        self.assertEqual((fewest(task), needed(task)), (((0,),), ((1,),)))
        task = read_task(WIDE, "(y, ((x = 0) + ((y = x), ((y = 0) + y))))")
        self.assertEqual((fewest(task), needed(task)), (((1,),), ((1, 1, 1),)))

    def test_points_that_the_task_has_already(self):
        task = read_task(WIDE, "((x = 0) +; ((x = 0) + x))")
        self.assertEqual(fewest(task), ())
        task = read_task(WIDE, "(x++ + (y++ +; y++))")
        self.assertEqual(fewest(task), ())
        task = read_task(WIDE, "((x++ + x) +; (y++ + y))")
        self.assertEqual(fewest(task), ((0,), (1,)))

    def test_eight_and_nine_open_nodes(self):
        eight = read_task(WIDE, "(((1 + 2) + (3 + 4)) + ((5 + 6) + (x++ + x)))")
        self.assertEqual(len(eight.open_nodes()), 7)
        eight = eight.put((0, 0, 0), ("op", "+", 1, 2))
        self.assertEqual((len(eight.open_nodes()), fewest(eight)), (8, ((1, 1),)))
        nine = eight.put((0, 0, 1), ("call", "g", (1, 2)))
        self.assertEqual(told(fewest, nine), ("TooMany", {"limit": 8}))
        self.assertEqual(fewest(nine.with_points((0,))), ((1, 1),))

    def test_eight_points(self):
        # Each of eight nodes decides alone what one place contains at the end; there are 256 classes.
        races = [("op", "+", ("store", place, 1), ("store", place, 2)) for place in "abcdefgh"]
        task = Task(WIDE, functools.reduce(lambda one, other: ("then", one, other), races))
        self.assertEqual((len(task), len(task.open_nodes())), (16, 8))
        self.assertEqual(fewest(task), tuple(task.open_nodes()))
        self.assertEqual(needed(task), tuple(task.open_nodes()))

    def test_too_many_nodes_ahead_of_too_many_classes(self):
        task = Task(WIDE, CLASSES_501)
        self.assertLess(len(task.open_nodes()), 9)
        self.assertEqual(told(fewest, task), ("TooMany", {"limit": 500}))
        while len(task.open_nodes()) < 9:
            self.assertEqual(told(fewest, task), ("TooMany", {"limit": 500}))
            task = Task(WIDE, ("op", "+", 1, task.expression))
        self.assertEqual(told(fewest, task), ("TooMany", {"limit": 8}))

    def test_no_set_with_fewer_points(self):
        for task in drawn_tasks(65, 40, 8):
            if len(task.open_nodes()) > 6:
                continue
            chosen = fewest(task)
            self.assertTrue(agree(task.with_points(*chosen)))
            for less in choices(task):
                if len(less) < len(chosen):
                    self.assertFalse(agree(task.with_points(*less)), str(task))


class General(unittest.TestCase):
    def test_by_name_and_without_change(self):
        task = read_task(WIDE, "(x++ + x++)")
        self.assertEqual(agree(task=task), agree(task))
        self.assertEqual(are_steady(task=task), are_steady(task))
        self.assertEqual(disagreement(task=task), disagreement(task))
        self.assertEqual(needed(task=task), needed(task))
        self.assertEqual(need_order(path=(), task=task), need_order(task, ()))
        self.assertEqual(fewest(task=task), fewest(task))
        self.assertEqual(task, read_task(WIDE, "(x++ + x++)"))


if __name__ == "__main__":
    unittest.main()
