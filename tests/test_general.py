"""The general rules [2] over the whole program: names of parameters, new lists, nothing changed, nothing shared."""

import copy
import inspect
import unittest

from ordersopen import (
    bench, cases, checker, classes, compare, functions, orders, papers, points, results, steps, tasks, texts,
)
from ordersopen.functions import Book, Function
from ordersopen.tasks import Task
from ordersopen.texts import read_task
from tests.helper import BOOK, CLASSES_501, WIDE, any_values, told

TASK = read_task(WIDE, "((x++ + f(x)) + ((x = 5) + g(1, y)))")
OTHER = read_task(WIDE, "((x++ + f(x)) +; ((x = 5) + g(1, y)))")
GUARDED = read_task(WIDE, "((x = 5) + (x ? (y = 1) : 2))")
ORDER = tuple(range(len(TASK)))
FLIPS = list(classes.classes(TASK))[3]
CASE = (("x", True),)


def run_at(step):
    run = cases.Run(GUARDED)
    run.do(step)
    return run


def bench_with_past():
    made = bench.Bench(TASK)
    made.point(())
    return made


# (a function, a class, or a method with a function that makes its object; the arguments by their names)
CALLS = [
    (functions.is_name, {"value": "x"}),
    (functions.Function, {"name": "f", "arguments": 1, "reads": ("x",), "stores": ("y",)}),
    (tasks.Task, {"book": WIDE, "expression": TASK.expression, "points": ((),)}),
    (TASK.nodes, {}), (TASK.node, {"path": (0,)}), (TASK.open_nodes, {}), (TASK.put, {"path": (0,), "expression": 1}),
    (steps.steps, {"task": TASK}), (steps.precedes, {"task": TASK, "one": 0, "other": 1}), (steps.races, {"task": TASK}),
    (orders.is_order, {"task": TASK, "value": ORDER}), (orders.count_orders, {"task": TASK}),
    (orders.order_at, {"task": TASK, "number": 7}), (orders.number_of, {"task": TASK, "order": ORDER}),
    (results.result, {"task": TASK, "order": ORDER}), (results.sources, {"task": TASK, "order": ORDER}),
    (results.live_steps, {"task": TASK, "order": ORDER}), (results.trace, {"task": TASK, "order": ORDER}),
    (results.all_results, {"task": TASK}),
    (classes.is_class, {"task": TASK, "value": FLIPS}), (classes.classes, {"task": TASK, "most": 2}),
    (classes.count_classes, {"task": TASK}), (classes.class_of, {"task": TASK, "order": ORDER}),
    (classes.least_order, {"task": TASK, "flips": FLIPS}), (classes.orders_in, {"task": TASK, "flips": FLIPS}),
    (classes.flippable, {"task": TASK, "flips": FLIPS}),
    (classes.flipped, {"task": TASK, "flips": (), "pair": classes.flippable(TASK, ())[0]}),
    (classes.flip_path, {"task": TASK, "one": (), "other": FLIPS}),
    (points.agree, {"task": TASK}), (points.are_steady, {"task": TASK}), (points.disagreement, {"task": TASK}),
    (points.needed, {"task": TASK}), (points.need_order, {"task": TASK, "path": ()}), (points.fewest, {"task": TASK}),
    (compare.apart, {"one": TASK, "other": OTHER}),
    (texts.read_task, {"book": WIDE, "text": str(TASK)}), (texts.show_term, {"term": ("+", ("first", "x"), 1)}),
    (cases.cases, {"task": GUARDED}), (cases.runs, {"task": GUARDED, "case": CASE}),
    (cases.case_results, {"task": GUARDED, "case": CASE}), (cases.clash, {"task": GUARDED, "case": CASE}),
    (papers.agreement_paper, {"task": TASK}), (papers.path_paper, {"task": TASK, "one": (), "other": FLIPS}),
    (papers.fewest_paper, {"task": TASK}), (papers.likeness_paper, {"one": TASK, "other": TASK}),
    (papers.likeness_paper, {"one": TASK, "other": OTHER}), (papers.guard_paper, {"task": GUARDED}),
    (papers.guard_paper, {"task": read_task(WIDE, "(x && y)")}),
    (papers.agreement_paper, {"task": read_task(WIDE, "((x = 1) * (x = 1))")}),
    (checker.holds, {"book": WIDE, "value": papers.fewest_paper(TASK)}),
]
METHODS = [
    (lambda: run_at(1), "tell", {"truth": True}), (lambda: run_at(0), "do", {"step": 1}), (lambda: run_at(1), "state", {}),
    (lambda: cases.Run(TASK), "finish", {}), (lambda: run_at(0), "trial", {"function": len}),
    (lambda: bench.Bench(TASK), "put", {"path": (0,), "expression": 1}), (lambda: bench.Bench(TASK), "point", {"path": ()}),
    (lambda: bench.Bench(OTHER), "unpoint", {"path": ()}), (bench_with_past, "undo", {}),
    (bench_with_past, "trial", {"function": len}),
]


def taken(value):
    """What a call returned, generators as lists."""
    return list(value) if inspect.isgenerator(value) else value


def spoil(value):
    """Change all lists and dicts within a value."""
    if isinstance(value, (list, tuple, dict)):
        for part in list(value):
            spoil(part)
    if isinstance(value, list):
        value.append("spoilt")
        value.reverse()
    if isinstance(value, dict):
        value.clear()


def by_position(call, named):
    """The arguments by position as far as they may be, the others by name."""
    kinds = {name: row.kind for name, row in inspect.signature(call).parameters.items()}
    return ([value for name, value in named.items() if kinds[name] != inspect.Parameter.KEYWORD_ONLY],
            {name: value for name, value in named.items() if kinds[name] == inspect.Parameter.KEYWORD_ONLY})


class Calls(unittest.TestCase):
    def test_by_name_in_another_order(self):
        for call, named in CALLS:
            given, rest = by_position(call, named)
            backwards = dict(list(named.items())[::-1])
            self.assertEqual(taken(call(**backwards)), taken(call(*given, **rest)), call)
        for make, name, named in METHODS:
            one, other = make(), make()
            backwards = dict(list(named.items())[::-1])
            self.assertEqual(getattr(one, name)(**backwards), getattr(other, name)(*named.values()), name)
            self.assertEqual(len(one), len(other))

    def test_what_is_returned_can_be_changed(self):
        for call, named in CALLS:
            first = taken(call(**named))
            kept = copy.deepcopy(first)
            spoil(first)
            self.assertEqual(taken(call(**named)), kept, call)
        for make, name, named in METHODS:
            made = make()
            first = getattr(make(), name)(**named)
            spoil(getattr(made, name)(**named))
            self.assertEqual(getattr(make(), name)(**named), first, name)

    def test_lists_of_objects_can_be_changed(self):
        run, task = run_at(0), read_task(WIDE, str(TASK))
        for ask in (lambda: run.ready, task.nodes, task.open_nodes):
            kept = list(ask())
            spoil(ask())
            self.assertEqual(ask(), kept)

    def test_results_do_not_depend_on_earlier_calls(self):
        first = [repr(taken(call(**named))) for call, named in CALLS]
        again = [repr(taken(call(**named))) for call, named in CALLS[::-1]]
        self.assertEqual(first, again[::-1])

    def test_arguments_stay_as_they_are(self):
        kept = copy.deepcopy([named for call, named in CALLS])
        for call, named in CALLS:
            taken(call(**named))
        self.assertEqual([named for call, named in CALLS], kept)
        paper = papers.fewest_paper(TASK)
        kept = copy.deepcopy(paper)
        self.assertTrue(checker.holds(WIDE, paper))
        self.assertEqual(paper, kept)

    def test_a_call_that_raises_changes_nothing(self):
        run = run_at(0)
        before = (run.done, run.ready, run.truths, run.state(), len(run))
        for value in any_values():
            if not isinstance(value, int) or isinstance(value, bool) or value != 1:
                self.assertEqual(told(run.do, value), ("NotReady", {"step": value}))
        told(run.tell, True)
        told(run.trial, lambda same: same.do(7))
        self.assertEqual((run.done, run.ready, run.truths, run.state(), len(run)), before)


class Objects(unittest.TestCase):
    def test_truth_is_that_of_the_length(self):
        for empty, full in [(Book(), BOOK), (Task(WIDE, 7), TASK), (cases.Run(TASK), run_at(0)),
                            (bench.Bench(TASK), bench_with_past())]:
            self.assertEqual([len(empty), bool(empty), bool(full)], [0, False, True])
            self.assertGreater(len(full), 0)

    def test_objects_share_no_state(self):
        one, other = bench.Bench(TASK), bench.Bench(TASK)
        one.point(())
        self.assertEqual((len(other), other.task, TASK.points), (0, TASK, ()))
        one, other = cases.Run(GUARDED), cases.Run(GUARDED)
        one.finish() if one.asked is None and False else one.do(0)
        self.assertEqual((other.done, other.state()), ((), ((), ())))
        function = Function("f")
        book = Book(function)
        function.name = "g"
        self.assertEqual(book.names, ("f",))

    def test_runs_do_not_keep_the_truths_that_are_passed(self):
        run = cases.Run(GUARDED, (("x", True),))
        run.do(1)
        self.assertEqual((run.truths, run.asked), ((("x", True),), None))
        other = cases.Run(GUARDED)
        other.do(1)
        self.assertEqual((other.truths, other.asked), ((), "x"))


class Bounds(unittest.TestCase):
    def test_too_many_classes_after_all_other_errors(self):
        many = Task(WIDE, CLASSES_501)
        foreign = Task(Book(), 7)
        for call in (results.all_results, classes.count_classes, points.agree, points.disagreement, points.fewest,
                     papers.agreement_paper, papers.fewest_paper, lambda task: next(classes.classes(task)),
                     lambda task: compare.apart(task, TASK), lambda task: compare.apart(TASK, task),
                     lambda task: papers.likeness_paper(task, TASK), lambda task: papers.likeness_paper(TASK, task)):
            self.assertEqual(told(call, many), ("TooMany", {"limit": 500}))
            self.assertIsNone(told(call, TASK))
        for call in (compare.apart, papers.likeness_paper):
            self.assertEqual(told(call, many, foreign), ("Unlike", {}))
            self.assertEqual(told(call, foreign, many), ("Unlike", {}))
            self.assertEqual(told(call, foreign, GUARDED), ("Guarded", {"path": (1,)}))

    def test_long_terms(self):
        # Each call reads what the one ahead of it left four times, so the texts grow to nearly 100,000 characters.
        places = ("w", "x", "y", "z")
        book = Book(Function("f", reads=places, stores=places), Function("g", 1))
        task = read_task(book, "g(((f(), f()), ((f(), f()), ((f(), (x ? 1 : 2)), 7))))")
        case = cases.cases(task)[1]
        self.assertGreater(len(case[0][0]), 2000)
        self.assertLess(len(case[0][0]), 100000)
        run = cases.Run(task, case)
        self.assertEqual((run.finish()[0], run.truths), (("value", "g", (7,)), case))
        paper = papers.guard_paper(task)
        self.assertEqual((paper[0], checker.holds(book, paper)), ("calm", True))
        bare = read_task(book, "((((f(), f()), (f(), f())), (f(), f())), 7)")
        paper = papers.agreement_paper(bare)
        self.assertEqual((paper[0], checker.holds(book, paper)), ("agree", True))
        self.assertGreater(max(len(texts.show_term(term)) for place, term in paper[4][1]), 10000)


if __name__ == "__main__":
    unittest.main()
