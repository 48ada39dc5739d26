"""The head of "The interface": names, arguments, and where each thing is defined."""

import ast
import inspect
import pathlib
import unittest

import ordersopen
from ordersopen import (
    bench, cases, checker, classes, compare, functions, orders, papers, points, results, steps, tasks, texts,
)

FOLDER = pathlib.Path(ordersopen.__file__).parent

DEFINED = {
    "errors": {
        name: ["__init__"] for name in (
            "NoName", "BadFunction", "NoExpression", "NoOrder", "NoText", "BadBook", "NoPoints", "NoFunction", "NoCase",
            "NoNumber", "NoStep", "NothingToUndo", "NoClass", "NoPair", "NoNode", "TooMany", "Guarded", "Unlike",
            "Asked", "NotAsked", "NotReady")
    },
    "functions": {
        "is_name": None,
        "Function": ["__init__", "__eq__", "__repr__"],
        "Book": ["__init__", "__getitem__", "__contains__", "names", "__len__", "__eq__", "__repr__", "MOST"],
    },
    "tasks": {
        "Task": ["__init__", "nodes", "node", "open_nodes", "with_points", "put", "__len__", "__str__", "__repr__",
                 "__eq__", "MOST_NODES", "MOST_DEPTH"],
    },
    "steps": dict.fromkeys(["steps", "precedes", "races"]),
    "orders": dict.fromkeys(["is_order", "count_orders", "order_at", "number_of"]),
    "results": dict.fromkeys(["result", "sources", "live_steps", "trace", "all_results"]),
    "classes": dict.fromkeys(["is_class", "classes", "count_classes", "class_of", "least_order", "orders_in",
                              "flippable", "flipped", "flip_path"]),
    "points": dict.fromkeys(["agree", "are_steady", "disagreement", "needed", "need_order", "fewest"]),
    "compare": dict.fromkeys(["apart"]),
    "texts": dict.fromkeys(["read_task", "show_term"]),
    "cases": {
        "Run": ["__init__", "done", "asked", "ready", "truths", "is_over", "outcome", "do", "tell", "finish", "state",
                "trial", "__len__"],
        **dict.fromkeys(["cases", "runs", "case_results", "clash"]),
    },
    "papers": dict.fromkeys(["agreement_paper", "path_paper", "fewest_paper", "likeness_paper", "guard_paper"]),
    "checker": dict.fromkeys(["holds"]),
    "bench": {"Bench": ["__init__", "put", "point", "unpoint", "undo", "trial", "__len__"]},
}

SIGNATURES = [
    (functions.is_name, "(value)"),
    (functions.Function, "(name, arguments=0, *, reads=(), stores=())"),
    (functions.Book, "(*functions)"),
    (tasks.Task, "(book, expression, *, points=())"),
    (tasks.Task.nodes, "(self)"),
    (tasks.Task.node, "(self, path)"),
    (tasks.Task.open_nodes, "(self)"),
    (tasks.Task.with_points, "(self, *paths)"),
    (tasks.Task.put, "(self, path, expression)"),
    (steps.steps, "(task)"),
    (steps.precedes, "(task, one, other)"),
    (steps.races, "(task)"),
    (orders.is_order, "(task, value)"),
    (orders.count_orders, "(task)"),
    (orders.order_at, "(task, number)"),
    (orders.number_of, "(task, order)"),
    (results.result, "(task, order)"),
    (results.sources, "(task, order)"),
    (results.live_steps, "(task, order)"),
    (results.trace, "(task, order)"),
    (results.all_results, "(task)"),
    (classes.is_class, "(task, value)"),
    (classes.classes, "(task, *, most=None)"),
    (classes.count_classes, "(task)"),
    (classes.class_of, "(task, order)"),
    (classes.least_order, "(task, flips)"),
    (classes.orders_in, "(task, flips)"),
    (classes.flippable, "(task, flips)"),
    (classes.flipped, "(task, flips, pair)"),
    (classes.flip_path, "(task, one, other)"),
    (points.agree, "(task)"),
    (points.are_steady, "(task)"),
    (points.disagreement, "(task)"),
    (points.needed, "(task)"),
    (points.need_order, "(task, path)"),
    (points.fewest, "(task)"),
    (compare.apart, "(one, other)"),
    (texts.read_task, "(book, text)"),
    (texts.show_term, "(term)"),
    (cases.Run, "(task, truths=())"),
    (cases.Run.do, "(self, step)"),
    (cases.Run.tell, "(self, truth)"),
    (cases.Run.finish, "(self)"),
    (cases.Run.state, "(self)"),
    (cases.Run.trial, "(self, function)"),
    (cases.cases, "(task)"),
    (cases.runs, "(task, case=())"),
    (cases.case_results, "(task, case=())"),
    (cases.clash, "(task, case=())"),
    (papers.agreement_paper, "(task)"),
    (papers.path_paper, "(task, one, other)"),
    (papers.fewest_paper, "(task)"),
    (papers.likeness_paper, "(one, other)"),
    (papers.guard_paper, "(task)"),
    (checker.holds, "(book, value)"),
    (bench.Bench, "(task)"),
    (bench.Bench.put, "(self, path, expression)"),
    (bench.Bench.point, "(self, path)"),
    (bench.Bench.unpoint, "(self, path)"),
    (bench.Bench.undo, "(self)"),
    (bench.Bench.trial, "(self, function)"),
]


def body_names(node):
    names = {child.name for child in node.body if isinstance(child, (ast.FunctionDef, ast.ClassDef))}
    for child in node.body:
        if isinstance(child, ast.Assign):
            names.update(target.id for target in child.targets)
    return names


class Interface(unittest.TestCase):
    def test_each_thing_is_defined_in_its_file_and_class(self):
        for file, things in DEFINED.items():
            tree = ast.parse((FOLDER / f"{file}.py").read_text())
            found = {child.name: child for child in tree.body if isinstance(child, (ast.FunctionDef, ast.ClassDef))}
            for name, methods in things.items():
                self.assertIsInstance(found.get(name), ast.FunctionDef if methods is None else ast.ClassDef, name)
                self.assertLessEqual(set(methods or ()), body_names(found[name]) if methods else set(), name)

    def test_generators(self):
        self.assertTrue(inspect.isgeneratorfunction(classes.classes))
        self.assertTrue(inspect.isgeneratorfunction(cases.runs))

    def test_properties(self):
        for name in ("done", "asked", "ready", "truths", "is_over", "outcome"):
            self.assertIsInstance(vars(cases.Run)[name], property)
        self.assertIsInstance(vars(functions.Book)["names"], property)

    def test_arguments(self):
        for thing, expected in SIGNATURES:
            self.assertEqual(str(inspect.signature(thing)), expected, thing)


if __name__ == "__main__":
    unittest.main()
