"""Promises [6] to [8]: bounds, points, paths, texts and lengths of tasks; and [2] for them."""

import unittest

from ordersopen.functions import Book, Function
from ordersopen.tasks import Task
from tests.helper import BOOK, any_values, told

X = ("read", "x")
Y = ("read", "y")
AFTER = ("step", "x", 1, "after")

# Open nodes: (), (0,), (0, 1), (1,), (1, 1); the call of f at (1, 0) is none.
MIXED = ("op", "-", ("op", "+", X, ("call", "g", (1, Y))),
         ("call", "h", (("call", "f", (1,)), ("op", "*", 1, 2), ("store", "x", 3))))
MIXED_NODES = [(), (0,), (0, 0), (0, 1), (0, 1, 0), (0, 1, 1), (1,), (1, 0), (1, 0, 0), (1, 1), (1, 1, 0), (1, 1, 1),
               (1, 2), (1, 2, 0)]
MIXED_OPEN = [(), (0,), (0, 1), (1,), (1, 1)]


def of_nodes(many):
    """An expression with so many nodes, an even depth of them."""
    if many == 1:
        return X
    if many == 2:
        return ("store", "x", X)
    return ("op", "+", of_nodes((many - 1) // 2), of_nodes(many - 1 - (many - 1) // 2))


def of_depth(depth):
    """An expression nested so deep."""
    value = 7
    for _ in range(depth - 1):
        value = ("store", "x", value)
    return value


class Bounds(unittest.TestCase):
    def test_class_values(self):
        self.assertEqual((Task.MOST_NODES, Task.MOST_DEPTH), (200, 30))
        self.assertEqual((Task(BOOK, 1).MOST_NODES, Task(BOOK, 1).MOST_DEPTH), (200, 30))

    def test_numbers_of_nodes(self):
        for many in (1, 2, 3, 199, 200):
            self.assertEqual(len(Task(BOOK, of_nodes(many)).nodes()), many)
        for many in (201, 202, 400):
            self.assertEqual(told(Task, BOOK, of_nodes(many)), ("TooMany", {"limit": 200}))

    def test_depths(self):
        for depth in (1, 2, 29, 30):
            self.assertEqual(len(Task(BOOK, of_depth(depth)).nodes()), depth)
        for depth in (31, 32, 75):
            self.assertEqual(told(Task, BOOK, of_depth(depth)), ("TooMany", {"limit": 30}))

    def test_a_read_alone_is_nested_one_deep(self):
        value = X
        for _ in range(29):
            value = ("then", 1, value)
        self.assertEqual(len(Task(BOOK, value).nodes()), 59)
        self.assertEqual(told(Task, BOOK, ("call", "f", (value,))), ("TooMany", {"limit": 30}))

    def test_the_error_listed_first_is_raised(self):
        many, deep, both, wrong = of_nodes(201), of_depth(31), ("then", of_nodes(200), of_depth(31)), [1]
        last = -1
        for _ in range(30):
            last = ("op", "+", ("op", "+", ("op", "+", 1, 2), 3), last)
        self.assertEqual(told(Task, BOOK, last), ("NoExpression", {"path": (1,) * 30}))
        self.assertEqual(told(Task, BOOK, ("then", many, -1)), ("NoExpression", {"path": (1,)}))
        self.assertEqual(told(Task, BOOK, ("then", deep, -1)), ("NoExpression", {"path": (1,)}))
        self.assertEqual(told(Task, BOOK, -1, points=wrong), ("NoExpression", {"path": ()}))
        self.assertEqual(told(Task, BOOK, both), ("TooMany", {"limit": 200}))
        self.assertEqual(told(Task, BOOK, many, points=wrong), ("TooMany", {"limit": 200}))
        self.assertEqual(told(Task, BOOK, deep, points=wrong), ("TooMany", {"limit": 30}))
        self.assertEqual(told(Task, BOOK, X, points=wrong), ("NoPoints", {"points": [1]}))


class Points(unittest.TestCase):
    def test_none(self):
        self.assertEqual(Task(BOOK, MIXED).points, ())
        self.assertEqual(Task(BOOK, 1, points=()).points, ())

    def test_each_open_node_alone_and_all(self):
        for path in MIXED_OPEN:
            self.assertEqual(Task(BOOK, MIXED, points=(path,)).points, (path,))
        self.assertEqual(Task(BOOK, MIXED, points=tuple(MIXED_OPEN)).points, tuple(MIXED_OPEN))

    def test_other_nodes_are_no_points(self):
        for path in MIXED_NODES:
            expected = None if path in MIXED_OPEN else ("NoPoints", {"points": (path,)})
            self.assertEqual(told(Task, BOOK, MIXED, points=(path,)), expected)

    def test_nodes_that_are_not_open(self):
        for value in (1, X, AFTER, ("store", "x", 1), ("call", "k", ()), ("call", "f", (1,)), ("then", 1, 2),
                      ("and", 1, 2), ("or", 1, 2), ("choose", 1, 2, 3)):
            self.assertEqual(told(Task, BOOK, value, points=((),)), ("NoPoints", {"points": ((),)}))
            self.assertEqual(Task(BOOK, value).open_nodes(), [])

    def test_wrong_points(self):
        wrong = ([], [()], [(0,)], None, True, False, 0, 1, "", "()", ((0,), ()), ((), ()), ((0,), (0,)),
                 ((1,), (0,)), ((), (0,), (0,)), ((0, 1), (0,)), ((), (0, 0)), ((2,),), ((-1,),), ((0, -1),),
                 ((True,),), ((False,),), ((0, True),), ((False, 1),), (0,), (1,), ([],), ([0],), ((), [0]), ((0,), None),
                 (None,), ("",), ("()",), (((0,),),), ((0, 1, 1),), ((1, 0),), ((0, 1, 0, 0),), ((9,),), ((10 ** 39,),),
                 (("0",),), ((None,),), {(): True}, {()}, ((0.0,),))
        for points in wrong:
            self.assertEqual(told(Task, BOOK, MIXED, points=points), ("NoPoints", {"points": points}), points)

    def test_points_of_any_value(self):
        right = [(), ((),), ((0,),)]
        for value in any_values():
            expected = None if value in right else ("NoPoints", {"points": value})
            self.assertEqual(told(Task, BOOK, MIXED, points=value), expected)

    def test_points_by_name_only(self):
        self.assertRaises(TypeError, Task, BOOK, MIXED, ())
        self.assertRaises(TypeError, Task, BOOK)
        self.assertEqual(Task(points=((),), expression=MIXED, book=BOOK).points, ((),))

    def test_an_error_keeps_no_list(self):
        points = [[0]]
        try:
            Task(BOOK, MIXED, points=points)
        except TypeError as error:
            points[0].append(1)
            points.append(2)
            self.assertEqual(error.points, [[0]])

    def test_open_nodes(self):
        task = Task(BOOK, MIXED)
        self.assertEqual(task.open_nodes(), MIXED_OPEN)
        self.assertEqual(task.with_points((), (1,)).open_nodes(), [(0,), (0, 1), (1, 1)])
        self.assertEqual(task.with_points(*MIXED_OPEN).open_nodes(), [])
        self.assertEqual(Task(BOOK, ("call", "g", (1, 2))).open_nodes(), [()])
        self.assertEqual(Task(BOOK, ("call", "h", (1, 2, ("op", "<", 1, 2)))).open_nodes(), [(), (2,)])


class WithPoints(unittest.TestCase):
    def test_in_any_order(self):
        task = Task(BOOK, MIXED)
        for paths in (((1,), (), (0, 1)), ((), (0, 1), (1,)), ((0, 1), (1,), ())):
            self.assertEqual(task.with_points(*paths), Task(BOOK, MIXED, points=((), (0, 1), (1,))))
        self.assertEqual(task.with_points(*MIXED_OPEN[::-1]).points, tuple(MIXED_OPEN))

    def test_points_of_the_task_stay_points(self):
        task = Task(BOOK, MIXED, points=((0,), (1,)))
        self.assertEqual(task.with_points((1, 1), ()).points, ((), (0,), (1,), (1, 1)))
        self.assertEqual(task.with_points((0, 1)).points, ((0,), (0, 1), (1,)))

    def test_none_at_all(self):
        for task in (Task(BOOK, MIXED), Task(BOOK, MIXED, points=((0,),)), Task(BOOK, 1)):
            self.assertEqual(task.with_points(), task)

    def test_wrong_paths(self):
        task = Task(BOOK, MIXED, points=((0,),))
        wrong = (((0,),), ((), (0,)), ((), ()), ((1,), (), (1,)), ((0, 0),), ((), (1, 0)), ((1, 2),), ((2,),), ((-1,),),
                 ((0, True),), ((True,),), ([],), ([1],), ((), [1]), (None,), (0,), ("",), ((), None), (((),),),
                 (((), (1,)),), ([(), (1,)],), ((1,), "()", ()))
        for paths in wrong:
            self.assertEqual(told(task.with_points, *paths), ("NoPoints", {"points": paths}), paths)
        self.assertEqual(task, Task(BOOK, MIXED, points=((0,),)))

    def test_the_tuple_is_told_as_passed(self):
        paths = ((1,), (), (0,), (1, 1))
        task = Task(BOOK, MIXED, points=((1, 1),))
        self.assertEqual(told(task.with_points, *paths), ("NoPoints", {"points": paths}))

    def test_any_value(self):
        task = Task(BOOK, MIXED)
        for value in any_values():
            right = value in MIXED_OPEN and repr(value) in [repr(path) for path in MIXED_OPEN]
            self.assertEqual(told(task.with_points, value), None if right else ("NoPoints", {"points": (value,)}))
            self.assertEqual(told(task.with_points, value, (0, 0)), ("NoPoints", {"points": (value, (0, 0))}))

    def test_the_task_stays(self):
        task = Task(BOOK, MIXED, points=((0,),))
        task.with_points((), (1,))
        told(task.with_points, (), ())
        self.assertEqual((task.points, str(task)), (((0,),), str(Task(BOOK, MIXED, points=((0,),)))))


class Nodes(unittest.TestCase):
    def test_preorder(self):
        self.assertEqual(Task(BOOK, MIXED).nodes(), MIXED_NODES)
        self.assertEqual(Task(BOOK, 1).nodes(), [()])
        self.assertEqual(Task(BOOK, AFTER).nodes(), [()])
        self.assertEqual(Task(BOOK, ("call", "k", ())).nodes(), [()])
        self.assertEqual(Task(BOOK, ("choose", ("and", 1, 2), ("or", 3, 4), ("then", 5, 6))).nodes(),
                         [(), (0,), (0, 0), (0, 1), (1,), (1, 0), (1, 1), (2,), (2, 0), (2, 1)])

    def test_node(self):
        task = Task(BOOK, MIXED)
        expected = {(): MIXED, (0,): MIXED[2], (0, 0): X, (0, 1): ("call", "g", (1, Y)), (0, 1, 0): 1, (0, 1, 1): Y,
                    (1,): MIXED[3], (1, 0): ("call", "f", (1,)), (1, 0, 0): 1, (1, 1): ("op", "*", 1, 2), (1, 1, 0): 1,
                    (1, 1, 1): 2, (1, 2): ("store", "x", 3), (1, 2, 0): 3}
        self.assertEqual({path: task.node(path) for path in task.nodes()}, expected)
        self.assertEqual(task.node(path=(0, 0)), X)

    def test_nodes_of_each_form(self):
        for value, below in ((("store", "x", 0), [0]), (("op", "+", 1, 0), [1, 0]), (("call", "h", (3, 0, 2)), [3, 0, 2]),
                             (("then", 0, 1), [0, 1]), (("and", 2, 3), [2, 3]), (("or", 4, 5), [4, 5]),
                             (("choose", 6, 7, 8), [6, 7, 8]), (("call", "k", ()), []), (AFTER, []), (X, []), (0, [])):
            task = Task(BOOK, value)
            self.assertEqual([task.node((at,)) for at in range(len(below))], below)
            self.assertEqual(told(task.node, (len(below),)), ("NoNode", {"path": (len(below),)}))

    def test_any_value(self):
        task = Task(BOOK, MIXED)
        for value in [*any_values(), (0, 2), (2,), (-1,), (0, -1), (0, True), (0, 1, 0, 0), (1, 2, 0, 0), [0], (0.0,),
                      (0, "0"), (0, [1]), {}, 1.5, (1, 3), (0, 0, 0), ((0,), 1)]:
            if repr(value) in [repr(path) for path in MIXED_NODES]:
                self.assertIsNone(told(task.node, value))
            else:
                self.assertEqual(told(task.node, value), ("NoNode", {"path": value}))

    def test_lists_are_new(self):
        task = Task(BOOK, MIXED)
        task.nodes().clear()
        task.open_nodes().append(1)
        self.assertEqual((task.nodes(), task.open_nodes()), (MIXED_NODES, MIXED_OPEN))

    def test_an_error_keeps_no_list(self):
        path = [0, [1]]
        for call in (Task(BOOK, MIXED).node, lambda value: Task(BOOK, MIXED).put(value, 1)):
            try:
                call(path)
            except LookupError as error:
                path[1].append(2)
                self.assertEqual(error.path, [0, [1]])
                path[1].pop()


class Put(unittest.TestCase):
    def test_at_the_root(self):
        task = Task(BOOK, MIXED)
        self.assertEqual(task.put((), 7), Task(BOOK, 7))
        self.assertEqual(task.put(path=(), expression=X), Task(BOOK, X))

    def test_at_each_node_of_each_form(self):
        for value in (("store", "x", 1), ("op", "<", 1, 2), ("call", "f", (1,)), ("call", "g", (1, 2)),
                      ("call", "h", (1, 2, 3)), ("then", 1, 2), ("and", 1, 2), ("or", 1, 2), ("choose", 1, 2, 3)):
            task = Task(BOOK, value)
            for path in task.nodes()[1:]:
                changed = task.put(path, 9)
                self.assertEqual([changed.node(other) for other in changed.nodes()[1:]],
                                 [9 if other == path else task.node(other) for other in task.nodes()[1:]])
                self.assertEqual(changed.put(path, task.node(path)), task)

    def test_at_a_leaf_deep_within(self):
        task = Task(BOOK, MIXED).put((1, 1, 0), ("then", X, Y))
        self.assertEqual(task.expression,
                         ("op", "-", ("op", "+", X, ("call", "g", (1, Y))),
                          ("call", "h", (("call", "f", (1,)), ("op", "*", ("then", X, Y), 2), ("store", "x", 3)))))
        self.assertEqual(task.put((1, 2, 0), 0).node((1, 2)), ("store", "x", 0))

    def test_points_elsewhere_are_kept(self):
        task = Task(BOOK, MIXED, points=tuple(MIXED_OPEN))
        self.assertEqual(task.put((0, 0), 1).points, tuple(MIXED_OPEN))
        self.assertEqual(task.put((1, 2, 0), ("op", "+", 1, 2)).points, tuple(MIXED_OPEN))

    def test_points_that_are_no_open_nodes_then_are_dropped(self):
        task = Task(BOOK, MIXED, points=tuple(MIXED_OPEN))
        self.assertEqual(task.put((0,), 1).points, ((), (1,), (1, 1)))
        self.assertEqual(task.put((1,), ("then", 1, 2)).points, ((), (0,), (0, 1)))
        self.assertEqual(task.put((1, 1), ("call", "f", (2,))).points, ((), (0,), (0, 1), (1,)))
        self.assertEqual(task.put((), 1).points, ())

    def test_points_that_are_open_nodes_again_are_kept(self):
        task = Task(BOOK, MIXED, points=tuple(MIXED_OPEN))
        self.assertEqual(task.put((0,), ("call", "g", (1, 2))).points, ((), (0,), (1,), (1, 1)))
        self.assertEqual(task.put((0,), ("then", 1, ("op", "<", 1, 2))).points, ((), (0, 1), (1,), (1, 1)))
        self.assertEqual(task.put((), ("and", ("op", "+", 1, 2), ("op", "*", 1, 2))).points, ((0,), (1,)))
        self.assertEqual(task.put((), ("op", "+", 1, 2)).points, ((),))

    def test_new_open_nodes_are_no_points(self):
        task = Task(BOOK, MIXED, points=((0,),))
        self.assertEqual(task.put((0, 0), ("op", "+", 1, 2)).open_nodes(), [(), (0, 0), (0, 1), (1,), (1, 1)])

    def test_no_node(self):
        task = Task(BOOK, MIXED)
        for value in [*any_values(), (2,), (0, 0, 0), (-1,), (0, True), [0]]:
            if repr(value) not in [repr(path) for path in MIXED_NODES]:
                self.assertEqual(told(task.put, value, 1), ("NoNode", {"path": value}))
                self.assertEqual(told(task.put, value, -1), ("NoNode", {"path": value}))

    def test_no_expression_with_the_path_in_the_whole(self):
        task = Task(BOOK, MIXED)
        self.assertEqual(told(task.put, (), -1), ("NoExpression", {"path": ()}))
        self.assertEqual(told(task.put, (1, 1), True), ("NoExpression", {"path": (1, 1)}))
        self.assertEqual(told(task.put, (1, 1), ("op", "+", 1, [1])), ("NoExpression", {"path": (1, 1, 1)}))
        self.assertEqual(told(task.put, (0, 1, 1), ("call", "z", ())), ("NoExpression", {"path": (0, 1, 1)}))
        self.assertEqual(told(task.put, (0, 0), ("then", ("store", "x", None), None)),
                         ("NoExpression", {"path": (0, 0, 0, 0)}))

    def test_any_value(self):
        right = [repr(value) for value in (0, 1, 2, 6, 999999, X)]
        for value in any_values():
            expected = None if repr(value) in right else ("NoExpression", {"path": (1, 0, 0)})
            self.assertEqual(told(Task(BOOK, MIXED).put, (1, 0, 0), value), expected)

    def test_bounds_of_the_whole(self):
        task = Task(BOOK, ("then", 1, 2))
        self.assertEqual(len(task.put((1,), of_nodes(198)).nodes()), 200)
        self.assertEqual(told(task.put, (1,), of_nodes(199)), ("TooMany", {"limit": 200}))
        self.assertEqual(len(task.put((1,), of_depth(29)).nodes()), 31)
        self.assertEqual(told(task.put, (1,), of_depth(30)), ("TooMany", {"limit": 30}))
        self.assertEqual(len(task.put((), of_depth(30)).nodes()), 30)
        self.assertEqual(len(Task(BOOK, of_nodes(200)).put((), of_nodes(200)).nodes()), 200)

    def test_the_error_listed_first_is_raised(self):
        task = Task(BOOK, ("then", 1, 2))
        self.assertEqual(told(task.put, (2,), of_nodes(201)), ("NoNode", {"path": (2,)}))
        self.assertEqual(told(task.put, (1,), ("then", of_nodes(201), -1)), ("NoExpression", {"path": (1, 1)}))
        self.assertEqual(told(task.put, (1,), ("then", of_nodes(201), of_depth(31))), ("TooMany", {"limit": 200}))

    def test_the_task_stays(self):
        task = Task(BOOK, MIXED, points=((0,), (1, 1)))
        value = ("then", X, Y)
        task.put((), value)
        task.put((1, 1), value)
        told(task.put, (1, 1), ["then", X, Y])
        self.assertEqual(task, Task(BOOK, MIXED, points=((0,), (1, 1))))
        self.assertEqual((task.nodes(), value), (MIXED_NODES, ("then", X, Y)))


class Texts(unittest.TestCase):
    def test_each_form(self):
        for value, text in (
                (0, "0"), (7, "7"), (999999, "999999"), (X, "x"), (("read", "abcdefgh"), "abcdefgh"),
                (("store", "x", 1), "(x = 1)"), (("step", "x", 1, "before"), "++x"), (("step", "x", -1, "before"), "--x"),
                (("step", "x", 1, "after"), "x++"), (("step", "x", -1, "after"), "x--"),
                (("op", "+", X, Y), "(x + y)"), (("op", "-", X, 1), "(x - 1)"), (("op", "*", 2, Y), "(2 * y)"),
                (("op", "<", 1, 2), "(1 < 2)"), (("call", "k", ()), "k()"), (("call", "f", (X,)), "f(x)"),
                (("call", "g", (X, Y)), "g(x, y)"), (("call", "h", (1, 2, 3)), "h(1, 2, 3)"),
                (("then", X, Y), "(x, y)"), (("and", X, Y), "(x && y)"), (("or", X, Y), "(x || y)"),
                (("choose", X, Y, 3), "(x ? y : 3)")):
            self.assertEqual(str(Task(BOOK, value)), text)

    def test_points(self):
        for value, text in ((("op", "+", X, Y), "(x +; y)"), (("op", "-", X, 1), "(x -; 1)"),
                            (("op", "*", 2, Y), "(2 *; y)"), (("op", "<", 1, 2), "(1 <; 2)"),
                            (("call", "g", (X, Y)), "g(x; y)"), (("call", "h", (1, 2, 3)), "h(1; 2; 3)")):
            self.assertEqual(str(Task(BOOK, value, points=((),))), text)

    def test_nested(self):
        task = Task(BOOK, MIXED)
        self.assertEqual(str(task), "((x + g(1, y)) - h(f(1), (1 * 2), (x = 3)))")
        self.assertEqual(str(task.with_points((), (0, 1))), "((x + g(1; y)) -; h(f(1), (1 * 2), (x = 3)))")
        self.assertEqual(str(task.with_points((0,), (1,))), "((x +; g(1, y)) - h(f(1); (1 * 2); (x = 3)))")
        self.assertEqual(str(task.with_points((1, 1))), "((x + g(1, y)) - h(f(1), (1 *; 2), (x = 3)))")

    def test_every_form_keeps_the_points_within(self):
        inner = ("op", "+", 1, 2)
        for value, path, text in (
                (("store", "x", inner), (0,), "(x = (1 +; 2))"), (("call", "f", (inner,)), (0,), "f((1 +; 2))"),
                (("then", 1, inner), (1,), "(1, (1 +; 2))"), (("and", inner, 1), (0,), "((1 +; 2) && 1)"),
                (("or", 1, inner), (1,), "(1 || (1 +; 2))"), (("choose", 1, 2, inner), (2,), "(1 ? 2 : (1 +; 2))"),
                (("choose", 1, inner, 2), (1,), "(1 ? (1 +; 2) : 2)"), (("op", "*", inner, inner), (1,), None)):
            expected = text or "((1 + 2) * (1 +; 2))"
            self.assertEqual(str(Task(BOOK, value, points=(path,))), expected)

    def test_deep(self):
        self.assertEqual(str(Task(BOOK, of_depth(30))), "(x = " * 29 + "7" + ")" * 29)


class Lengths(unittest.TestCase):
    def test_steps_of_each_form(self):
        for value, steps in ((7, 0), (X, 1), (AFTER, 2), (("store", "x", 1), 1), (("store", "x", X), 2),
                             (("op", "+", X, Y), 2), (("op", "+", 1, 2), 0), (("call", "k", ()), 1),
                             (("call", "f", (X,)), 2), (("call", "g", (AFTER, AFTER)), 5), (("then", X, AFTER), 3),
                             (("and", X, Y), 2), (("or", X, 1), 1), (("choose", X, AFTER, AFTER), 5),
                             (("choose", 1, 2, 3), 0)):
            task = Task(BOOK, value)
            self.assertEqual(len(task), steps)
            self.assertEqual(repr(task), f"Task({steps} steps)")
            self.assertEqual(bool(task), steps > 0)

    def test_points_have_no_steps(self):
        self.assertEqual(len(Task(BOOK, MIXED)), 6)
        self.assertEqual(len(Task(BOOK, MIXED, points=tuple(MIXED_OPEN))), 6)


class Equality(unittest.TestCase):
    def test_book_expression_and_points_count(self):
        one = Task(BOOK, MIXED, points=((0,),))
        self.assertTrue(one == Task(Book(*[BOOK[name] for name in "khgf"]), MIXED, points=((0,),)))
        self.assertFalse(one != Task(BOOK, MIXED, points=((0,),)))
        smaller = Book(BOOK["f"], BOOK["g"], BOOK["h"])
        for other in (Task(smaller, MIXED, points=((0,),)), Task(BOOK, MIXED), Task(BOOK, MIXED, points=((1,),)),
                      Task(BOOK, MIXED, points=((0,), (1,))), one.put((1, 1, 0), 2)):
            self.assertFalse(one == other)
            self.assertTrue(one != other)

    def test_a_task_equals_nothing_else(self):
        for expression in (1, X):
            task = Task(BOOK, expression)
            for other in [*any_values(), expression, str(task), repr(task), BOOK, (BOOK, expression, ()), object()]:
                self.assertIs(task == other, False)
                self.assertIs(task != other, True)

        class Everything:
            def __eq__(self, other):
                return True

        self.assertIs(Task(BOOK, 1) == Everything(), False)


class General(unittest.TestCase):
    def test_attributes(self):
        task = Task(BOOK, MIXED, points=((0,),))
        self.assertEqual((task.book, task.expression, task.points), (BOOK, MIXED, ((0,),)))
        for name in ("book", "expression", "points"):
            self.assertIn(name, vars(task))

    def test_books_and_values_stay_as_they_were(self):
        book = Book(Function("f", 1))
        expression = ("op", "+", X, ("call", "f", (1,)))
        task = Task(book, expression, points=((),))
        task.put((0,), 1).with_points()
        self.assertEqual((repr(book), book["f"], len(book)), ("Book(f)", Function("f", 1), 1))
        self.assertEqual(expression, ("op", "+", X, ("call", "f", (1,))))
        value = ["op", ["+"], [1], (2,)]
        told(Task, book, value, points=value)
        told(task.put, value, value)
        told(task.with_points, value)
        self.assertEqual(value, ["op", ["+"], [1], (2,)])

    def test_results_do_not_depend_on_earlier_calls(self):
        first = Task(BOOK, MIXED)
        told(first.node, 1)
        first.with_points((0,)).put((0,), 1)
        second = Task(BOOK, MIXED)
        self.assertEqual((first, first.open_nodes(), str(first)), (second, second.open_nodes(), str(second)))

    def test_the_examples_of_the_document(self):
        book = Book(Function("f", 1, reads=("x",), stores=("y",)), Function("g", 2))
        twice = Task(book, ("op", "+", ("step", "x", 1, "after"), ("step", "x", 1, "after")))
        self.assertEqual([len(twice), str(twice), str(twice.with_points(())), twice.open_nodes()],
                         [4, "(x++ + x++)", "(x++ +; x++)", [()]])
        self.assertEqual(told(Task, book, ("call", "g", (1, ("read", "X")))), ("NoExpression", {"path": (1,)}))


if __name__ == "__main__":
    unittest.main()
