"""The head of "The interface": names, arguments, and where each thing is defined."""

import ast
import inspect
import pathlib
import unittest

import ordersopen
from ordersopen import functions, tasks

FOLDER = pathlib.Path(ordersopen.__file__).parent

DEFINED = {
    "errors": {
        name: ["__init__"] for name in (
            "NoName", "BadFunction", "NoExpression", "NoOrder", "NoText", "BadBook", "NoPoints", "NoFunction", "NoCase",
            "NoNumber", "NoStep", "NothingToUndo", "NoClass", "NoPair", "NoNode", "TooMany", "Guarded", "Unlike",
            "Asked", "NotAsked", "NotReady")
    },
    "functions": {
        "is_name": None,
        "Function": ["__init__", "__eq__", "__repr__"],
        "Book": ["__init__", "__getitem__", "__contains__", "names", "__len__", "__eq__", "__repr__", "MOST"],
    },
    "tasks": {
        "Task": ["__init__", "nodes", "node", "open_nodes", "with_points", "put", "__len__", "__str__", "__repr__",
                 "__eq__", "MOST_NODES", "MOST_DEPTH"],
    },
}

SIGNATURES = [
    (functions.is_name, "(value)"),
    (functions.Function, "(name, arguments=0, *, reads=(), stores=())"),
    (functions.Book, "(*functions)"),
    (tasks.Task, "(book, expression, *, points=())"),
    (tasks.Task.nodes, "(self)"),
    (tasks.Task.node, "(self, path)"),
    (tasks.Task.open_nodes, "(self)"),
    (tasks.Task.with_points, "(self, *paths)"),
    (tasks.Task.put, "(self, path, expression)"),
]


def body_names(node):
    names = {child.name for child in node.body if isinstance(child, (ast.FunctionDef, ast.ClassDef))}
    for child in node.body:
        if isinstance(child, ast.Assign):
            names.update(target.id for target in child.targets)
    return names


class Interface(unittest.TestCase):
    def test_each_thing_is_defined_in_its_file_and_class(self):
        for file, things in DEFINED.items():
            tree = ast.parse((FOLDER / f"{file}.py").read_text())
            found = {child.name: child for child in tree.body if isinstance(child, (ast.FunctionDef, ast.ClassDef))}
            for name, methods in things.items():
                self.assertIsInstance(found.get(name), ast.FunctionDef if methods is None else ast.ClassDef, name)
                self.assertLessEqual(set(methods or ()), body_names(found[name]) if methods else set(), name)

    def test_arguments(self):
        for thing, expected in SIGNATURES:
            self.assertEqual(str(inspect.signature(thing)), expected, thing)


if __name__ == "__main__":
    unittest.main()
