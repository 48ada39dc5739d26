"""Promises [11] and [12]: what comes of doing the steps, and the sources, live steps and traces; all_results."""

import unittest

from ordersopen.functions import Book, Function
from ordersopen.orders import count_orders, order_at
from ordersopen.results import all_results, live_steps, result, sources, trace
from ordersopen.tasks import Task
from tests.helper import (
    BOOK, CLASSES_500, CLASSES_501, CLASSES_SIXTEEN, WIDE, any_values, done_in, drawn_tasks, in_parallel, orders_of, told,
    trace_of)

X = ("read", "x")
Y = ("read", "y")
Z = ("read", "z")
AFTER = ("step", "x", 1, "after")
K = ("call", "k", ())
N = ("call", "n", ())
FIRST = ("first", "x")
FIRST_Y = ("first", "y")
TWICE = Task(BOOK, ("op", "+", AFTER, AFTER))
OF_ONE_ORDER = (result, sources, live_steps, trace)


def store(place, operand):
    return ("store", place, operand)


def then(*expressions):
    if len(expressions) == 1:
        return expressions[0]
    return ("then", expressions[0], then(*expressions[1:]))


def left_first(expression, book=WIDE):
    task = Task(book, expression)
    return task, tuple(range(len(task)))


# (expression, order, value, contents)
RESULTS = [
    (7, (), 7, ()),
    (X, (0,), FIRST, ()),
    (store("x", 5), (0,), 5, (("x", 5),)),
    (store("x", X), (0, 1), FIRST, ()),
    (store("y", X), (0, 1), FIRST, (("y", FIRST),)),
    (("step", "x", 1, "after"), (0, 1), FIRST, (("x", ("+", FIRST, 1)),)),
    (("step", "x", 1, "before"), (0, 1), ("+", FIRST, 1), (("x", ("+", FIRST, 1)),)),
    (("step", "x", -1, "after"), (0, 1), FIRST, (("x", ("-", FIRST, 1)),)),
    (("step", "x", -1, "before"), (0, 1), ("-", FIRST, 1), (("x", ("-", FIRST, 1)),)),
    (("op", "+", 1, 2), (), ("+", 1, 2), ()),
    (("op", "-", X, 7), (0,), ("-", FIRST, 7), ()),
    (("op", "*", 7, X), (0,), ("*", 7, FIRST), ()),
    (("op", "<", X, Y), (0, 1), ("<", FIRST, FIRST_Y), ()),
    (("op", "<", X, Y), (1, 0), ("<", FIRST, FIRST_Y), ()),
    (("op", "+", ("op", "-", 1, 1), ("op", "*", 0, X)), (0,), ("+", ("-", 1, 1), ("*", 0, FIRST)), ()),
    (("then", 1, 2), (), 2, ()),
    (("then", store("x", 1), Y), (0, 1), FIRST_Y, (("x", 1),)),
    (("then", store("x", 1), X), (0, 1), 1, (("x", 1),)),
    (("then", X, store("x", 1)), (0, 1), 1, (("x", 1),)),
    (K, (0,), ("value", "k", ()), ()),
    (("call", "g", (3, 4)), (0,), ("value", "g", (3, 4)), ()),
    (("call", "g", (X, Y)), (1, 0, 2), ("value", "g", (FIRST, FIRST_Y)), ()),
    (("call", "f", (5,)), (0,), ("value", "f", (5, FIRST)), (("y", ("left", "f", "y", (5, FIRST))),)),
    (("call", "f", (store("x", 5),)), (0, 1), ("value", "f", (5, 5)),
     (("x", 5), ("y", ("left", "f", "y", (5, 5))))),
    (("call", "h", (1, 2, 3)), (0,), ("value", "h", (1, 2, 3)),
     (("x", ("left", "h", "x", (1, 2, 3))), ("y", ("left", "h", "y", (1, 2, 3))))),
    (("call", "m", (0,)), (0,), ("value", "m", (0, FIRST, FIRST_Y)),
     (("x", ("left", "m", "x", (0, FIRST, FIRST_Y))), ("y", ("left", "m", "y", (0, FIRST, FIRST_Y))))),
    (N, (0,), ("value", "n", (FIRST_Y,)), (("y", ("left", "n", "y", (FIRST_Y,))),)),
    (("then", N, N), (0, 1), ("value", "n", (("left", "n", "y", (FIRST_Y,)),)),
     (("y", ("left", "n", "y", (("left", "n", "y", (FIRST_Y,)),))),)),
    (("op", "-", N, Y), (0, 1), ("-", ("value", "n", (FIRST_Y,)), ("left", "n", "y", (FIRST_Y,))),
     (("y", ("left", "n", "y", (FIRST_Y,))),)),
    (("op", "-", N, Y), (1, 0), ("-", ("value", "n", (FIRST_Y,)), FIRST_Y), (("y", ("left", "n", "y", (FIRST_Y,))),)),
    (("op", "+", store("x", 1), X), (0, 1), ("+", 1, 1), (("x", 1),)),
    (("op", "+", store("x", 1), X), (1, 0), ("+", 1, FIRST), (("x", 1),)),
    (("op", "+", store("x", 1), store("x", 2)), (0, 1), ("+", 1, 2), (("x", 2),)),
    (("op", "+", store("x", 1), store("x", 2)), (1, 0), ("+", 1, 2), (("x", 1),)),
    (("call", "g", (store("x", 1), ("op", "*", X, X))), (1, 0, 2, 3), ("value", "g", (1, ("*", FIRST, 1))), (("x", 1),)),
    (store("x", store("y", 4)), (0, 1), 4, (("x", 4), ("y", 4))),
    (store("x", ("then", 1, ("op", "+", Y, 2))), (0, 1), ("+", FIRST_Y, 2), (("x", ("+", FIRST_Y, 2)),)),
    (("op", "+", AFTER, AFTER), (0, 2, 1, 3), ("+", FIRST, FIRST), (("x", ("+", FIRST, 1)),)),
    (("op", "+", AFTER, AFTER), (2, 3, 0, 1), ("+", ("+", FIRST, 1), FIRST), (("x", ("+", ("+", FIRST, 1), 1)),)),
    (("op", "+", ("step", "x", 1, "before"), ("step", "x", -1, "before")), (0, 2, 1, 3),
     ("+", ("+", FIRST, 1), ("-", FIRST, 1)), (("x", ("-", FIRST, 1)),)),
    (("op", "+", ("step", "x", 1, "before"), X), (0, 2, 1), ("+", ("+", FIRST, 1), FIRST), (("x", ("+", FIRST, 1)),)),
    (("op", "+", ("step", "x", 1, "after"), store("x", 5)), (0, 2, 1), ("+", FIRST, 5), (("x", ("+", FIRST, 1)),)),
    # A place that contains its first content again is left out, also behind other stores.
    (then(store("z", X), store("x", 5), store("x", Z)), (0, 1, 2, 3, 4), FIRST, (("z", FIRST),)),
    (then(store("x", Y), store("y", X)), (0, 1, 2, 3), FIRST_Y, (("x", FIRST_Y),)),
    (then(store("z", X), store("x", Y), store("y", Z)), (0, 1, 2, 3, 4, 5), FIRST,
     (("x", FIRST_Y), ("y", FIRST), ("z", FIRST))),
    # Terms are not computed, so this is another content.
    (then(("step", "x", 1, "after"), ("step", "x", -1, "before")), (0, 1, 2, 3), ("-", ("+", FIRST, 1), 1),
     (("x", ("-", ("+", FIRST, 1), 1)),)),
    (store("x", ("op", "+", X, 0)), (0, 1), ("+", FIRST, 0), (("x", ("+", FIRST, 0)),)),
    # Places ascend, in whatever order they are stored.
    (then(store("c", 1), store("a", 2), store("bb", 3), store("b", 4)), (0, 1, 2, 3), 4,
     (("a", 2), ("b", 4), ("bb", 3), ("c", 1))),
]

# (expression, order, sources, live steps, trace)
TRACES = [
    (7, (), {}, [], ((), ())),
    (X, (0,), {(0, "x"): None}, [0], ((), (((0, "x"), None),))),
    # Dead and live reads.
    (("then", X, 1), (0,), {(0, "x"): None}, [], ((), ())),
    (("then", X, Y), (0, 1), {(0, "x"): None, (1, "y"): None}, [1], ((), (((1, "y"), None),))),
    (("op", "<", X, Y), (1, 0), {(0, "x"): None, (1, "y"): None}, [0, 1],
     ((), (((0, "x"), None), ((1, "y"), None)))),
    # Stores, and stores that are stored over.
    (store("x", Y), (0, 1), {(0, "y"): None}, [0, 1], ((("x", 1),), (((0, "y"), None),))),
    (store("x", ("then", Y, 1)), (0, 1), {(0, "y"): None}, [1], ((("x", 1),), ())),
    (then(store("x", Y), store("x", 2)), (0, 1, 2), {(0, "y"): None}, [2], ((("x", 2),), ())),
    (then(store("x", 1), store("y", X), store("x", 2)), (0, 1, 2, 3), {(1, "x"): 0}, [0, 1, 2, 3],
     ((("x", 3), ("y", 2)), (((1, "x"), 0),))),
    (then(store("x", 1), store("y", X), store("x", 2), store("y", 3)), (0, 1, 2, 3, 4), {(1, "x"): 0}, [3, 4],
     ((("x", 3), ("y", 4)), ())),
    (("op", "+", store("x", 1), store("x", 2)), (1, 0), {}, [0], ((("x", 0),), ())),
    (("op", "+", store("x", 1), store("x", 2)), (0, 1), {}, [1], ((("x", 1),), ())),
    (("op", "+", store("x", 1), X), (1, 0), {(1, "x"): None}, [0, 1], ((("x", 0),), (((1, "x"), None),))),
    (("op", "+", store("x", 1), X), (0, 1), {(1, "x"): 0}, [0, 1], ((("x", 0),), (((1, "x"), 0),))),
    # The value of a store is that of its operand, so it does not make the store live.
    (("op", "+", store("x", Y), store("x", 2)), (0, 1, 2), {(0, "y"): None}, [0, 2],
     ((("x", 2),), (((0, "y"), None),))),
    # `step` nodes: the part is the read, with "before" too.
    (AFTER, (0, 1), {(0, "x"): None}, [0, 1], ((("x", 1),), (((0, "x"), None),))),
    (("then", AFTER, 1), (0, 1), {(0, "x"): None}, [0, 1], ((("x", 1),), (((0, "x"), None),))),
    (then(AFTER, store("x", 5)), (0, 1, 2), {(0, "x"): None}, [2], ((("x", 2),), ())),
    (store("x", AFTER), (0, 1, 2), {(0, "x"): None}, [0, 2], ((("x", 2),), (((0, "x"), None),))),
    (store("x", ("step", "x", -1, "before")), (0, 1, 2), {(0, "x"): None}, [0, 2],
     ((("x", 2),), (((0, "x"), None),))),
    (then(AFTER, AFTER), (0, 1, 2, 3), {(0, "x"): None, (2, "x"): 1}, [0, 1, 2, 3],
     ((("x", 3),), (((0, "x"), None), ((2, "x"), 1)))),
    (("op", "+", AFTER, AFTER), (0, 2, 1, 3), {(0, "x"): None, (2, "x"): None}, [0, 2, 3],
     ((("x", 3),), (((0, "x"), None), ((2, "x"), None)))),
    (("op", "+", AFTER, AFTER), (2, 3, 0, 1), {(0, "x"): 3, (2, "x"): None}, [0, 1, 2, 3],
     ((("x", 1),), (((0, "x"), 3), ((2, "x"), None)))),
    # Calls, live by their value or as a last store, or dead; their arguments with them.
    (K, (0,), {}, [0], ((), ())),
    (("then", K, 1), (0,), {}, [], ((), ())),
    (("call", "g", (X, Y)), (0, 1, 2), {(0, "x"): None, (1, "y"): None}, [0, 1, 2],
     ((), (((0, "x"), None), ((1, "y"), None)))),
    (("then", ("call", "g", (X, Y)), 1), (0, 1, 2), {(0, "x"): None, (1, "y"): None}, [], ((), ())),
    (("call", "g", (("then", X, 1), Y)), (0, 1, 2), {(0, "x"): None, (1, "y"): None}, [1, 2],
     ((), (((1, "y"), None),))),
    (("then", ("call", "f", (X,)), 1), (0, 1), {(0, "x"): None, (1, "x"): None}, [0, 1],
     ((("y", 1),), (((0, "x"), None), ((1, "x"), None)))),
    (then(("call", "f", (Z,)), store("y", 1)), (0, 1, 2), {(0, "z"): None, (1, "x"): None}, [2], ((("y", 2),), ())),
    (("call", "g", (store("x", Y), ("op", "*", X, 1))), (0, 1, 2, 3), {(0, "y"): None, (2, "x"): 1}, [0, 1, 2, 3],
     ((("x", 1),), (((0, "y"), None), ((2, "x"), 1)))),
    (("then", ("call", "h", (1, 2, 3)), store("x", 4)), (0, 1), {}, [0, 1], ((("x", 1), ("y", 0)), ())),
    # A call that reads and stores the same place reads what was there before it.
    (N, (0,), {(0, "y"): None}, [0], ((("y", 0),), (((0, "y"), None),))),
    (("then", N, N), (0, 1), {(0, "y"): None, (1, "y"): 0}, [0, 1],
     ((("y", 1),), (((0, "y"), None), ((1, "y"), 0)))),
    (then(N, store("y", 1), N), (0, 1, 2), {(0, "y"): None, (2, "y"): 1}, [1, 2], ((("y", 2),), (((2, "y"), 1),))),
    (("op", "+", N, N), (1, 0), {(0, "y"): 1, (1, "y"): None}, [0, 1],
     ((("y", 0),), (((0, "y"), 1), ((1, "y"), None)))),
    # Readings of several places by one call.
    (("op", "+", ("call", "m", (X,)), ("then", store("y", Z), 1)), (0, 2, 3, 1),
     {(0, "x"): None, (1, "x"): None, (1, "y"): 3, (2, "z"): None}, [0, 1, 2, 3],
     ((("x", 1), ("y", 1)), (((0, "x"), None), ((1, "x"), None), ((1, "y"), 3), ((2, "z"), None)))),
    (("op", "+", ("call", "m", (X,)), ("then", store("y", Z), 1)), (0, 1, 2, 3),
     {(0, "x"): None, (1, "x"): None, (1, "y"): None, (2, "z"): None}, [0, 1, 2, 3],
     ((("x", 1), ("y", 3)), (((0, "x"), None), ((1, "x"), None), ((1, "y"), None), ((2, "z"), None)))),
    # A live read makes its source live, and so on.
    (then(store("x", Y), store("z", X), store("x", 1), store("y", Z), store("z", 2)), (0, 1, 2, 3, 4, 5, 6, 7),
     {(0, "y"): None, (2, "x"): 1, (5, "z"): 3}, [0, 1, 2, 3, 4, 5, 6, 7],
     ((("x", 4), ("y", 6), ("z", 7)), (((0, "y"), None), ((2, "x"), 1), ((5, "z"), 3)))),
]


class Results(unittest.TestCase):
    def test_by_hand(self):
        for expression, order, value, contents in RESULTS:
            self.assertEqual(result(Task(WIDE, expression), order), (value, contents), (expression, order))

    def test_calls_by_two_names_with_equal_inputs(self):
        book = Book(Function("p", stores=("x",)), Function("q", stores=("x", "y")))
        task = Task(book, ("op", "-", ("call", "p", ()), ("call", "q", ())))
        value = ("-", ("value", "p", ()), ("value", "q", ()))
        self.assertEqual(result(task, (0, 1)), (value, (("x", ("left", "q", "x", ())), ("y", ("left", "q", "y", ())))))
        self.assertEqual(result(task, (1, 0)), (value, (("x", ("left", "p", "x", ())), ("y", ("left", "q", "y", ())))))

    def test_inputs_are_the_arguments_then_the_reads_ascending(self):
        book = Book(Function("w", 2, reads=("a", "b", "c"), stores=("b", "d")))
        expression = then(store("c", 1), store("a", 2), ("call", "w", (8, 9)))
        inputs = (8, 9, 2, ("first", "b"), 1)
        self.assertEqual(result(Task(book, expression), (0, 1, 2)), (("value", "w", inputs), (
            ("a", 2), ("b", ("left", "w", "b", inputs)), ("c", 1), ("d", ("left", "w", "d", inputs)))))

    def test_drawn_tasks(self):
        for task in [*drawn_tasks(21, 150, 6), *drawn_tasks(22, 20, 9)]:
            for number in range(min(count_orders(task), 40)):
                order = order_at(task, number)
                self.assertEqual(result(task, order), done_in(task, order), (str(task), order))

    def test_many_more_than_sixteen_steps(self):
        task, order = left_first(then(*[AFTER] * 28), BOOK)
        content = FIRST
        for _ in range(27):
            content = ("+", content, 1)
        self.assertEqual((len(task), result(task, order)), (56, (content, (("x", ("+", content, 1)),))))
        self.assertEqual(sources(task, order), {(0, "x"): None, **{(at, "x"): at - 1 for at in range(2, 56, 2)}})
        self.assertEqual(live_steps(task, order), list(range(56)))
        for task in drawn_tasks(23, 12, 70):
            for number in (0, count_orders(task) // 2, count_orders(task) - 1):
                order = order_at(task, number)
                self.assertEqual(trace(task, order), trace_of(task, order)[2])

    def test_results_of_two_hundred_nodes(self):
        expression = AFTER
        for _ in range(6):
            expression = ("op", "+", expression, expression)
        task = Task(BOOK, expression)
        last = order_at(task, count_orders(task) - 1)
        for order in (tuple(range(128)), last):
            self.assertEqual(result(task, order), done_in(task, order))
        self.assertEqual(result(task, (*range(0, 128, 2), *range(1, 128, 2)))[1], (("x", ("+", FIRST, 1)),))

    def test_a_term_that_stands_in_many_others(self):
        double = then(*[store("x", ("op", "*", X, X))] * 12)
        task, order = left_first(double)
        expected = FIRST
        for _ in range(12):
            expected = ("*", expected, expected)
        self.assertEqual(result(task, order), (expected, (("x", expected),)))


class Traces(unittest.TestCase):
    def test_by_hand(self):
        for expression, order, froms, live, expected in TRACES:
            task = Task(WIDE, expression)
            self.assertEqual(sources(task, order), froms, (expression, order))
            self.assertEqual(list(sources(task, order)), sorted(froms), (expression, order))
            self.assertEqual(live_steps(task, order), live, (expression, order))
            self.assertEqual(trace(task, order), expected, (expression, order))

    def test_a_call_without_places_has_no_readings(self):
        task = Task(BOOK, ("call", "g", (K, 1)))
        self.assertEqual((sources(task, (0, 1)), live_steps(task, (0, 1)), trace(task, (0, 1))), ({}, [0, 1], ((), ())))

    def test_drawn_tasks(self):
        for task in [*drawn_tasks(24, 150, 6), *drawn_tasks(25, 20, 9)]:
            for number in range(min(count_orders(task), 25)):
                order = order_at(task, number)
                froms, live, expected = trace_of(task, order)
                self.assertEqual(list(sources(task, order).items()), list(froms.items()), (str(task), order))
                self.assertEqual(live_steps(task, order), live, (str(task), order))
                self.assertEqual(trace(task, order), expected, (str(task), order))

    def test_one_trace_gives_one_result(self):
        for task in drawn_tasks(26, 60, 6):
            found = {}
            for order in orders_of(task):
                self.assertEqual(found.setdefault(trace(task, order), result(task, order)), result(task, order))


class AllResults(unittest.TestCase):
    def test_by_hand(self):
        one = ("+", 1, 1), (("x", 1),)
        other = ("+", 1, FIRST), (("x", 1),)
        task = Task(BOOK, ("op", "+", store("x", 1), X))
        self.assertEqual(all_results(task), [(one, (0, 1)), (other, (1, 0))])
        self.assertEqual(all_results(task.with_points(())), [(one, (0, 1))])
        self.assertEqual(all_results(Task(BOOK, 7)), [((7, ()), ())])
        self.assertEqual(all_results(Task(BOOK, ("op", "*", store("x", 1), store("x", 1)))),
                         [((("*", 1, 1), (("x", 1),)), (0, 1))])

    def test_against_all_orders(self):
        for task in [*drawn_tasks(27, 200, 6), *drawn_tasks(28, 30, 8)]:
            least = {}
            for order in orders_of(task):
                least.setdefault(result(task, order), order)
            self.assertEqual(all_results(task), [(outcome, order) for outcome, order in least.items()], str(task))

    def test_sixteen_steps_and_some_hundred_classes(self):
        # Of each row of reads the last one counts; of reads that stand beside each other all do.
        apart = in_parallel("Y", *"yyyy", "Z", *"zzzz", *"uuuuuu")
        for expression, many in ((CLASSES_SIXTEEN, 2 * 2 * 2), (apart, 2 ** 8)):
            task = Task(WIDE, expression)
            found = all_results(task)
            self.assertEqual((len(task), len(found)), (16, many))
            orders = [order for outcome, order in found]
            self.assertEqual(orders, sorted(orders))
            self.assertEqual(len({outcome for outcome, order in found}), many)
            for outcome, order in found:
                self.assertEqual(done_in(task, order), outcome)

    def test_too_many(self):
        self.assertIsNone(told(all_results, Task(WIDE, CLASSES_500)))
        self.assertEqual(told(all_results, Task(WIDE, CLASSES_501)), ("TooMany", {"limit": 500}))
        same = Task(WIDE, ("call", "h", tuple([("op", "+", store("x", 1), store("x", 1))] * 3)))
        self.assertEqual(told(all_results, same), ("TooMany", {"limit": 500}))
        self.assertEqual(len(all_results(same.with_points((0,), (1,), (2,)))), 1)


class Errors(unittest.TestCase):
    def test_no_order(self):
        for call in OF_ONE_ORDER:
            for value in [*any_values(), (0, 1, 2), (1, 0, 2, 3), [0, 1, 2, 3], (0, True, 2, 3), (0, 1, 2, 3, 4)]:
                self.assertEqual(told(call, TWICE, value), ("NoOrder", {"order": value}), call)

    def test_no_order_keeps_no_list_and_true_stays_true(self):
        for call in OF_ONE_ORDER:
            value = [0, [1]]
            try:
                call(TWICE, value)
            except ValueError as error:
                value[1].append(2)
                self.assertEqual(error.order, [0, [1]])
            self.assertIs(told(call, TWICE, (0, True, 2, 3))[1]["order"][1], True)


class General(unittest.TestCase):
    def test_arguments_by_name(self):
        order = (0, 1, 2, 3)
        for call in OF_ONE_ORDER:
            self.assertEqual(call(order=order, task=TWICE), call(TWICE, order))
        self.assertEqual(all_results(task=TWICE), all_results(TWICE))

    def test_the_kinds_of_what_is_returned(self):
        order = (0, 1, 2, 3)
        self.assertEqual([type(call(TWICE, order)) for call in OF_ONE_ORDER], [tuple, dict, list, tuple])
        self.assertEqual(type(all_results(TWICE)), list)
        self.assertEqual([type(row) for row in all_results(TWICE)], [tuple] * 3)

    def test_lists_and_dicts_are_new(self):
        order = (0, 1, 2, 3)
        expected = sources(TWICE, order), live_steps(TWICE, order), trace(TWICE, order), all_results(TWICE)
        sources(TWICE, order).clear()
        live_steps(TWICE, order).append(1)
        all_results(TWICE).pop()
        again = sources(TWICE, order), live_steps(TWICE, order), trace(TWICE, order), all_results(TWICE)
        self.assertEqual(again, expected)
        other = Task(BOOK, TWICE.expression)
        self.assertEqual((sources(other, order), live_steps(other, order), trace(other, order), all_results(other)), expected)

    def test_what_was_returned_stays_when_another_task_is_asked(self):
        kept = sources(TWICE, (0, 1, 2, 3)), live_steps(TWICE, (0, 2, 1, 3)), all_results(TWICE)
        copy = dict(kept[0]), list(kept[1]), list(kept[2])
        other = Task(BOOK, ("op", "+", store("x", 1), X))
        sources(other, (0, 1)), live_steps(other, (1, 0)), all_results(other), sources(TWICE, (2, 3, 0, 1))
        self.assertEqual(kept, copy)

    def test_the_task_and_the_order_stay(self):
        task = Task(BOOK, TWICE.expression)
        value = [0, [1], (2, [3])]
        for call in OF_ONE_ORDER:
            told(call, task, value), call(task, (0, 1, 2, 3))
        all_results(task)
        self.assertEqual((value, task), ([0, [1], (2, [3])], TWICE))

    def test_the_examples_of_the_document(self):
        book = Book(Function("f", 1, reads=("x",), stores=("y",)), Function("g", 2))
        twice = Task(book, ("op", "+", AFTER, AFTER))
        self.assertEqual(result(twice, (0, 1, 2, 3)), (
            ('+', ('first', 'x'), ('+', ('first', 'x'), 1)), (('x', ('+', ('+', ('first', 'x'), 1), 1)),)))
        self.assertEqual([order for told, order in all_results(twice)], [(0, 1, 2, 3), (0, 2, 1, 3), (2, 3, 0, 1)])


if __name__ == "__main__":
    unittest.main()
