"""The bench: changes, the races that go and come, taking back, and trials."""

import random
import unittest

from ordersopen.bench import Bench
from ordersopen.tasks import Task
from ordersopen.texts import read_task
from tests.helper import WIDE, any_values, drawn, drawn_tasks, races_of, rows_of, told


def task_of(text):
    return read_task(WIDE, text)


def races_told(task):
    """The set of the races of a task by kind and path."""
    rows = [row[:2] for row in rows_of(task.book, task.expression)]
    return {(rows[one], rows[other]) for one, other in races_of(task)}


def exchanged(before, after):
    ours, theirs = races_told(before), races_told(after)
    return sorted(ours - theirs), sorted(theirs - ours)


class Changes(unittest.TestCase):
    def test_races_that_go_and_come(self):
        bench = Bench(task_of("((x = 5) + (x++ + y))"))
        store, read, change = ("store", (0,)), ("read", (1, 0)), ("store", (1, 0))
        self.assertEqual(bench.point(()), ([(store, read), (store, change)], []))
        self.assertEqual(str(bench.task), "((x = 5) +; (x++ + y))")
        self.assertEqual(bench.unpoint(()), ([], [(store, read), (store, change)]))
        self.assertEqual(bench.put((1, 1), ("store", "x", 1)),
                         ([], [(read, ("store", (1, 1))), (store, ("store", (1, 1))), (change, ("store", (1, 1)))]))
        self.assertEqual(bench.put((1, 0), ("read", "x")), ([(store, change), (change, ("store", (1, 1)))], []))
        self.assertEqual(bench.put((1, 1), ("read", "x")),
                         ([(("read", (1, 0)), ("store", (1, 1))), (store, ("store", (1, 1)))],
                          [(store, ("read", (1, 1)))]))
        self.assertEqual((str(bench.task), len(bench)), ("((x = 5) + (x + x))", 5))

    def test_a_race_whose_steps_have_other_numbers_stays(self):
        bench = Bench(task_of("(y + ((x = 1) + x))"))
        self.assertEqual(bench.put((0,), ("op", "+", ("read", "y"), ("read", "y"))), ([], []))
        self.assertEqual(bench.put((1, 0, 0), ("read", "z")), ([], []))
        # The path of one of the two steps is another one now.
        self.assertEqual(bench.put((1, 1), ("op", "+", 1, ("read", "x"))),
                         ([(("store", (1, 0)), ("read", (1, 1)))], [(("store", (1, 0)), ("read", (1, 1, 1)))]))

    def test_put_drops_points_as_the_task_does(self):
        bench = Bench(task_of("((x = 1) +; (x + 2))"))
        bench.put((), ("op", "-", ("store", "x", 1), ("read", "x")))
        self.assertEqual((str(bench.task), bench.task.points), ("((x = 1) -; x)", ((),)))
        self.assertEqual(bench.put((), ("then", 1, 2)), ([], []))
        self.assertEqual(bench.task.points, ())
        self.assertEqual(bench.undo(), ([], []))
        self.assertEqual(str(bench.task), "((x = 1) -; x)")

    def test_changes_by_chance_and_back_again(self):
        draw = random.Random(121)
        for task in drawn_tasks(122, 25, 8, guards=True):
            bench, tasks, done = Bench(task), [task], []
            for _ in range(8):
                self.assertEqual((bench.task, len(bench), bool(bench)), (tasks[-1], len(done), len(done) > 0))
                name, given = self.change(bench.task, draw)
                expected = {"put": lambda path, node: tasks[-1].put(path, node),
                            "point": lambda path: tasks[-1].with_points(path),
                            "unpoint": lambda path: Task(WIDE, tasks[-1].expression, points=tuple(
                                point for point in tasks[-1].points if point != path))}[name](*given)
                shown = getattr(bench, name)(*given)
                self.assertEqual(shown, exchanged(tasks[-1], expected))
                self.assertEqual([type(shown), *map(type, shown)], [tuple, list, list])
                tasks.append(expected)
                done.append((name, given, shown))
            for name, given, shown in done[::-1]:
                self.assertEqual(bench.undo(), shown[::-1])
                tasks.pop()
                self.assertEqual((bench.task, len(bench)), (tasks[-1], len(tasks) - 1))
            self.assertEqual(told(bench.undo), ("NothingToUndo", {}))
            for name, given, shown in done:
                self.assertEqual(getattr(bench, name)(*given), shown)

    def change(self, task, draw):
        """The name and the arguments of a change that can be made."""
        name = draw.choice(["put", "point", "unpoint"])
        if name == "point" and task.open_nodes():
            return name, (draw.choice(task.open_nodes()),)
        if name == "unpoint" and task.points:
            return name, (draw.choice(task.points),)
        return "put", (draw.choice(task.nodes()), drawn(draw, 3, True))


class Errors(unittest.TestCase):
    def unchanged(self, bench, call, *given):
        before = (bench.task, str(bench.task), len(bench))
        error = told(call, *given)
        self.assertEqual((bench.task, str(bench.task), len(bench)), before)
        return error

    def test_put(self):
        bench = Bench(task_of("((x = 5) +; x)"))
        bench.put((1,), ("op", "+", 1, ("read", "x")))
        for path in any_values():
            if path not in bench.task.nodes() or path != () and isinstance(path[0], bool):
                self.assertEqual(self.unchanged(bench, bench.put, path, None), ("NoNode", {"path": path}))
        for value in [None, True, ("read", "X"), (), [], -1, 1000000, ("op", "+", 1, 2, 3), "x"]:
            self.assertEqual(self.unchanged(bench, bench.put, (1, 1), value), ("NoExpression", {"path": (1, 1)}))
        self.assertEqual(self.unchanged(bench, bench.put, (1,), ("op", "+", 1, True)), ("NoExpression", {"path": (1, 1)}))
        deep = wide = 1
        for _ in range(30):
            deep = ("store", "x", deep)
        for _ in range(7):
            wide = ("op", "+", wide, wide)
        self.assertEqual(self.unchanged(bench, bench.put, (), deep), ("TooMany", {"limit": 30}))
        self.assertEqual(self.unchanged(bench, bench.put, (), wide), ("TooMany", {"limit": 200}))

    def test_point(self):
        bench = Bench(task_of("((x + y) +; g(x, f(1)))"))
        for path in [(), (0, 0), (1, 1), (2,), [0], (False,), (True,), None, "", 0, [], (0, 0, 0)]:
            self.assertEqual(self.unchanged(bench, bench.point, path), ("NoNode", {"path": path}))
        for path in any_values():
            if path not in ((0,), (1,)) or isinstance(path[0], bool):
                self.assertEqual(self.unchanged(bench, bench.point, path), ("NoNode", {"path": path}))
        self.assertEqual(bench.point(path=(1,)), ([], []))
        self.assertEqual(self.unchanged(bench, bench.point, (1,)), ("NoNode", {"path": (1,)}))

    def test_unpoint(self):
        bench = Bench(task_of("((x +; y) + g(x; f(1)))"))
        for path in [(), (0, 0), (1, 1), (2,), [0], (False,), (True,), None, "", 0, []]:
            self.assertEqual(self.unchanged(bench, bench.unpoint, path), ("NoNode", {"path": path}))
        for path in any_values():
            if path not in ((0,), (1,)) or isinstance(path[0], bool):
                self.assertEqual(self.unchanged(bench, bench.unpoint, path), ("NoNode", {"path": path}))
        self.assertEqual(bench.unpoint(path=(1,)), ([], []))
        self.assertEqual(self.unchanged(bench, bench.unpoint, (1,)), ("NoNode", {"path": (1,)}))
        self.assertEqual(bench.task.points, ((0,),))

    def test_undo(self):
        bench = Bench(task_of("(x + y)"))
        self.assertEqual(self.unchanged(bench, bench.undo), ("NothingToUndo", {}))
        bench.point(())
        bench.undo()
        self.assertEqual(self.unchanged(bench, bench.undo), ("NothingToUndo", {}))
        self.assertEqual(bench.task, task_of("(x + y)"))


class Trials(unittest.TestCase):
    def setUp(self):
        self.bench = Bench(task_of("((x = 5) + x)"))
        self.bench.put((1,), ("step", "x", 1, "after"))
        self.bench.point(())

    def check_as_before(self):
        self.assertEqual((str(self.bench.task), len(self.bench)), ("((x = 5) +; x++)", 2))

    def test_a_trial_has_only_its_own_calls(self):
        def function(bench):
            self.assertIs(bench, self.bench)
            self.assertEqual((len(bench), bool(bench)), (0, False))
            self.assertEqual(told(bench.undo), ("NothingToUndo", {}))
            bench.unpoint(())
            bench.put((0,), 1)
            self.assertEqual((len(bench), str(bench.task)), (2, "(1 + x++)"))
            bench.undo()
            self.assertEqual((len(bench), str(bench.task)), (1, "((x = 5) + x++)"))
            bench.undo()
            self.assertEqual(told(bench.undo), ("NothingToUndo", {}))
            bench.put((), 7)
            return "told"

        self.assertEqual(self.bench.trial(function), "told")
        self.check_as_before()
        self.assertIsNone(self.bench.trial(function=lambda bench: None))
        self.check_as_before()
        race = (("store", (0,)), ("read", (1,)))
        self.assertEqual(self.bench.undo(), ([], [race, (race[0], ("store", (1,)))]))
        self.assertEqual(self.bench.undo(), ([(race[0], ("store", (1,)))], []))
        self.assertEqual((str(self.bench.task), len(self.bench)), ("((x = 5) + x)", 0))

    def test_errors_propagate(self):
        def function(bench):
            bench.put((), 7)
            raise ZeroDivisionError("mine")

        with self.assertRaisesRegex(ZeroDivisionError, "mine"):
            self.bench.trial(function)
        self.check_as_before()
        self.assertEqual(told(self.bench.trial, lambda bench: bench.undo()), ("NothingToUndo", {}))
        self.assertEqual(told(self.bench.trial, lambda bench: (bench.put((), 1), bench.point(()))), ("NoNode", {"path": ()}))
        self.check_as_before()
        with self.assertRaises(KeyboardInterrupt):
            self.bench.trial(lambda bench: [bench.put((), 1), (_ for _ in ()).throw(KeyboardInterrupt())])
        self.check_as_before()

    def test_trials_in_trials(self):
        def inner(bench):
            self.assertEqual((len(bench), str(bench.task)), (0, "((x = 5) + x++)"))
            bench.put((1,), 3)
            return str(bench.task)

        def outer(bench):
            bench.unpoint(())
            shown = bench.trial(inner)
            self.assertEqual((len(bench), str(bench.task)), (1, "((x = 5) + x++)"))
            self.assertEqual(told(bench.trial, lambda same: same.undo()), ("NothingToUndo", {}))
            bench.undo()
            self.assertEqual(str(bench.task), "((x = 5) +; x++)")
            return shown

        self.assertEqual(self.bench.trial(outer), "((x = 5) + 3)")
        self.check_as_before()


class General(unittest.TestCase):
    def test_two_benches_beside_each_other(self):
        task = task_of("((x = 5) + x)")
        one, other = Bench(task), Bench(task=task)
        one.put((0,), 1)
        one.point(())
        self.assertEqual((str(other.task), len(other), str(task)), ("((x = 5) + x)", 0, "((x = 5) + x)"))
        other.put(expression=2, path=(1,))
        self.assertEqual((str(one.task), str(other.task), len(one), len(other)), ("(1 +; x)", "((x = 5) + 2)", 2, 1))
        self.assertEqual(one.task, one.task)

    def test_lists_are_new(self):
        bench = Bench(task_of("((x = 5) + x)"))
        for part in bench.point(()):
            part.append(7)
        for part in bench.undo():
            part.clear()
        self.assertEqual([len(part) for part in bench.point(())], [1, 0])

    def test_the_task_that_is_passed_is_not_kept(self):
        task = task_of("((x = 5) + x)")
        bench = Bench(task)
        task.points = ((),)
        self.assertEqual(str(bench.task), "((x = 5) + x)")


if __name__ == "__main__":
    unittest.main()
