"""Papers [24]: their forms, that they hold, which of two kinds is written, and the errors in their order."""

import itertools
import unittest

from ordersopen.asking import all_givens
from ordersopen.cases import case_results, cases
from ordersopen.checker import holds
from ordersopen.classes import classes, flip_path, is_class
from ordersopen.functions import Book
from ordersopen.papers import agreement_paper, fewest_paper, guard_paper, likeness_paper, path_paper
from ordersopen.points import agree, fewest
from ordersopen.results import all_results
from ordersopen.tasks import Task
from ordersopen.texts import read_task
from tests.helper import (
    CLASSES_500, CLASSES_501, CLASSES_SIXTEEN, WIDE, any_values, classes_in, done_in, drawn_tasks, in_parallel, is_clash_in,
    prefixes_in, races_of, told,
)


def task_of(text, book=WIDE):
    return read_task(book, text)


class Agreement(unittest.TestCase):
    def test_forms(self):
        kinds = set()
        for task in [*drawn_tasks(111, 60, 6), task_of("((x = 1) * (x = 1))"), task_of("((x, 1) + (x = 2))"), task_of("7")]:
            paper = agreement_paper(task)
            self.assertIs(type(paper), tuple)
            self.assertTrue(holds(WIDE, paper))
            self.assertEqual(paper[1:3], (task.expression, task.points))
            by_class = classes_in(task)
            shown = {flips: done_in(task, orders[0]) for flips, orders in by_class.items()}
            if len(set(shown.values())) == 1:
                self.assertEqual(len(paper), 5)
                self.assertEqual((paper[0], sorted(paper[3]), paper[4]), ("agree", sorted(shown), shown[()]))
            else:
                kind, expression, points, flips, pair = paper
                self.assertIn(pair, races_of(task))
                self.assertEqual(kind, "differ")
                self.assertNotEqual(shown[flips], shown[tuple(sorted(set(flips) ^ {pair}))])
            kinds.add(paper[0])
        self.assertEqual(kinds, {"agree", "differ"})

    def test_only_one_of_the_two_kinds_can_be_written(self):
        for task in drawn_tasks(112, 30, 6):
            listed = list(classes(task))
            agreeing = [holds(WIDE, ("agree", task.expression, task.points, listed, shown)) for shown, order in all_results(task)]
            differing = [holds(WIDE, ("differ", task.expression, task.points, flips, pair))
                         for flips in listed for pair in races_of(task)]
            self.assertNotEqual(any(agreeing), any(differing))
            self.assertEqual(any(agreeing), agree(task))

    def test_lists_are_new(self):
        task = task_of("((x = 1) * (x = 1))")
        agreement_paper(task)[3].clear()
        self.assertEqual(len(agreement_paper(task)[3]), 2)


class Paths(unittest.TestCase):
    def test_from_a_class_to_itself_and_to_every_other_one(self):
        for task in drawn_tasks(113, 15, 6):
            listed = list(classes(task))[:12]
            for one, other in itertools.product(listed, repeat=2):
                kind, expression, points, path = paper = path_paper(task, one, other)
                self.assertEqual((kind, expression, points), ("path", task.expression, task.points))
                self.assertEqual((path[0], path[-1], len(path)), (one, other, 1 + len(set(one) ^ set(other))))
                self.assertEqual(len(path), len(flip_path(task, one, other)))
                self.assertTrue(holds(WIDE, paper))

    def test_errors(self):
        task = task_of("(x++ + x++)")
        self.assertEqual(told(path_paper, task, ((1, 3),), None), ("NoClass", {"flips": ((1, 3),)}))
        for value in any_values():
            if value != ():
                self.assertEqual(told(path_paper, task, value, None), ("NoClass", {"flips": value}))
                self.assertEqual(told(path_paper, task, (), value), ("NoClass", {"flips": value}))
                self.assertEqual(told(path_paper, task_of("(x && 1)"), value, value), ("Guarded", {"path": ()}))
        self.assertEqual(path_paper(other=((1, 2),), one=(), task=task)[3], [(), ((1, 2),)])


class Fewest(unittest.TestCase):
    def test_forms(self):
        sizes = set()
        fixed = [task_of(text) for text in (
            "(((x = 1) + (x = 2)), ((y = 1) + (y = 2)))", "((x = 0) + ((x = 0) + x))", "((x + (x = 1)) +; 2)", "1",
            "((((a = 1) + (a = 2)), ((b = 1) + (b = 2))), ((c = 1) + (c = 2)))")]
        for task in [*drawn_tasks(114, 60, 6), *fixed]:
            if len(task.open_nodes()) > 6:
                continue
            kind, expression, points, chosen, listed, rows = paper = fewest_paper(task)
            self.assertEqual((kind, expression, points, chosen), ("fewest", task.expression, task.points, fewest(task)))
            self.assertEqual(sorted(listed), sorted(classes(task.with_points(*chosen))))
            smaller = list(itertools.combinations(task.open_nodes(), len(chosen) - 1)) if chosen else []
            self.assertEqual([row[0] for row in rows], smaller)
            by_class = classes_in(task)
            for nodes, flips in rows:
                self.assertTrue(is_class(task.with_points(*nodes), flips))
                self.assertNotEqual(done_in(task, by_class[flips][0]), done_in(task, by_class[()][0]))
            self.assertTrue(holds(WIDE, paper))
            sizes.add(len(chosen))
        self.assertLessEqual({0, 1, 2, 3}, sizes)

    def test_eight_open_nodes(self):
        races = ", ".join(f"(({place} = 1) + ({place} = 2))" for place in "ab")
        task = task_of(f"(((({races}), ((1 + 2) + (3 + 4))), (5 + 6)), ((7 + 8), (9 + 10)))")
        self.assertEqual(len(task.open_nodes()), 8)
        paper = fewest_paper(task)
        self.assertEqual((len(paper[3]), len(paper[5]), holds(WIDE, paper)), (2, 8, True))

    def test_errors_and_new_lists(self):
        nine = task_of("(((1 + 2) + (3 + 4)) + (((5 + 6) + (7 + 8)) + (9 + (10 + 11))))")
        self.assertEqual(told(fewest_paper, nine), ("TooMany", {"limit": 8}))
        self.assertEqual(told(fewest_paper, nine.put((0,), ("and", 1, 2))), ("Guarded", {"path": (0,)}))
        self.assertEqual(told(fewest_paper, Task(WIDE, CLASSES_501)), ("TooMany", {"limit": 500}))
        task = task_of("(x++ + x++)")
        for part in fewest_paper(task=task)[4:]:
            part.clear()
        self.assertEqual([len(part) for part in fewest_paper(task)[4:]], [1, 1])


class Likeness(unittest.TestCase):
    def test_forms(self):
        tasks = drawn_tasks(115, 30, 5)
        pairs = [(one, other) for one, other in zip(tasks, tasks[1:])]
        pairs += [pair for task in tasks for path in task.open_nodes()
                  for pair in ((task, task.with_points(path)), (task.with_points(path), task))]
        kinds = set()
        for one, other in pairs:
            paper = likeness_paper(one, other)
            self.assertTrue(holds(WIDE, paper))
            results = [{done_in(task, orders[0]) for orders in classes_in(task).values()} for task in (one, other)]
            self.assertEqual(paper[0], "alike" if results[0] == results[1] else "apart")
            told_tasks = [Task(WIDE, paper[at], points=paper[at + 1]) for at in (1, 3)]
            if paper[0] == "alike":
                self.assertEqual(told_tasks, [one, other])
                self.assertEqual([sorted(part) for part in paper[5:]], [sorted(classes(task)) for task in (one, other)])
                kinds.add("alike")
            else:
                self.assertIn(told_tasks, [[one, other], [other, one]])
                self.assertIn(paper[5], classes_in(told_tasks[0]))
                self.assertEqual(sorted(paper[6]), sorted(classes(told_tasks[1])))
                kinds.add("first" if told_tasks == [one, other] else "second")
        self.assertEqual(kinds, {"alike", "first", "second"})

    def test_only_one_of_the_two_kinds_can_be_written(self):
        tasks = [task_of(text) for text in ("((x = 1) + x)", "((x = 1) +; x)", "((x = 1) + 1)", "((x = 1), ((x + 0), (1 + x)))")]
        for one, other in itertools.product(tasks, repeat=2):
            lists = [list(classes(task)) for task in (one, other)]
            heads = [(one.expression, one.points, other.expression, other.points),
                     (other.expression, other.points, one.expression, one.points)]
            alike = holds(WIDE, ("alike", *heads[0], *lists))
            apart = [holds(WIDE, ("apart", *heads[at], flips, lists[1 - at])) for at in (0, 1) for flips in lists[at]]
            self.assertNotEqual(alike, any(apart))
            self.assertEqual(alike, {shown for shown, order in all_results(one)} == {shown for shown, order in all_results(other)})

    def test_errors_and_new_lists(self):
        plain, guarded, foreign = task_of("x"), task_of("(1 + (x && y))"), Task(Book(), ("read", "x"))
        self.assertEqual(told(likeness_paper, guarded, Task(Book(), ("and", 1, 2))), ("Guarded", {"path": (1,)}))
        self.assertEqual(told(likeness_paper, foreign, guarded), ("Guarded", {"path": (1,)}))
        self.assertEqual(told(likeness_paper, Task(WIDE, CLASSES_501), foreign), ("Unlike", {}))
        self.assertEqual(told(likeness_paper, plain, Task(WIDE, CLASSES_501)), ("TooMany", {"limit": 500}))
        self.assertEqual(told(likeness_paper, Task(WIDE, CLASSES_501), plain), ("TooMany", {"limit": 500}))
        task = task_of("(x + y)")
        for part in likeness_paper(other=task, one=task)[5:]:
            part.clear()
        self.assertEqual(likeness_paper(task, task)[5:], ([()], [()]))


class Guards(unittest.TestCase):
    def test_forms(self):
        kinds = set()
        for task in [*drawn_tasks(116, 60, 4, guards=True), *drawn_tasks(117, 20, 5)]:
            if told(cases, task) is not None:
                continue
            paper = guard_paper(task)
            self.assertTrue(holds(WIDE, paper), str(task))
            self.assertEqual(paper[1:3], (task.expression, task.points))
            calm = all(len(case_results(task, case)) == 1 for case in cases(task))
            self.assertEqual(paper[0], "calm" if calm else "clash")
            if calm:
                self.check_tree(task, paper[3], {})
            else:
                kind, expression, points, truths, prefix, one, other = paper
                self.assertTrue(is_clash_in(task, dict(truths), prefix, one, other))
                self.assertEqual(truths, tuple(sorted(truths)))
            kinds.add((paper[0], paper[3][0] if calm and paper[3] else len(paper[3]) > 0))
        self.assertEqual(kinds, {("calm", "ask"), ("calm", "states"), ("clash", False), ("clash", True)})

    def check_tree(self, task, tree, given):
        self.assertIs(type(tree), tuple)
        if tree[0] == "ask":
            self.assertEqual(len(tree), 4)
            for at in (2, 3):
                self.check_tree(task, tree[at], {**given, tree[1]: at == 3})
        else:
            self.assertEqual((tree[0], len(tree), type(tree[1])), ("states", 2, list))
            states = {seen.state() for order, seen in prefixes_in(task, given)}
            self.assertEqual((len(tree[1]), set(tree[1])), (len(states), states))

    def test_one_list_for_each_case(self):
        task = task_of("(((a ? 1 : 2) + (b ? 1 : 2)) + ((c ? 1 : 2) + (d ? 1 : 2)))")
        paper = guard_paper(task)
        waiting, lists = [paper[3]], 0
        while waiting:
            tree = waiting.pop()
            lists += 1 if tree[0] == "states" else 0
            waiting += tree[2:] if tree[0] == "ask" else []
        self.assertEqual((lists, len(cases(task)), len(all_givens(task))), (16, 16, 16))
        self.assertTrue(holds(WIDE, paper))

    def test_only_one_of_the_two_kinds_can_be_written(self):
        for text in ("((x = 5) + (x ? 1 : 2))", "((x = 5) +; (x ? 1 : 2))", "(x ? x++ : y)", "(n() + (x ? 1 : 2))", "(x + y)",
                     "(x++ + x++)", "((x = 1) * (x = 1))"):
            task = task_of(text)
            paper = guard_paper(task)
            calm = ("calm", task.expression, task.points, self.tree_of(task, [dict(case) for case in cases(task)]))
            pairs = itertools.combinations(range(len(task)), 2)
            clashes = [("clash", task.expression, task.points, case, order[:many], one, other)
                       for one, other in pairs for case in cases(task) for many in range(len(task))
                       for order in {order[:many] for result, order in case_results(task, case)}]
            found = any(holds(WIDE, clash) for clash in clashes)
            self.assertEqual((holds(WIDE, calm), found), (paper[0] == "calm", paper[0] == "clash"), text)

    def tree_of(self, task, givens, asked=()):
        """A tree that asks all texts in their order, also those that need not be asked."""
        texts = sorted({text for given in givens for text in given} - {text for text, truth in asked})
        if not texts:
            return ("states", list({seen.state() for order, seen in prefixes_in(task, dict(asked))}))
        branches = [self.tree_of(task, givens, (*asked, (texts[0], truth))) for truth in (False, True)]
        return ("ask", texts[0], *branches)

    def test_64_cases_and_more(self):
        six = task_of("(((a ? 1 : 2) + (b ? 1 : 2)) + (((c ? 1 : 2) + (d ? 1 : 2)) + ((e ? 1 : 2) + (f ? 1 : 2))))")
        paper = guard_paper(six)
        self.assertEqual((paper[0], holds(WIDE, paper)), ("calm", True))
        seven = task_of(f"({six} + (g ? 1 : 2))")
        self.assertEqual(told(guard_paper, seven), ("TooMany", {"limit": 64}))
        # More than 64 cases are told ahead of a clash.
        seven = task_of(f"({six} + (g ? (x = 1) : (x = 2)))").put((0, 0, 0), ("store", "x", 1))
        self.assertEqual(guard_paper(seven)[0], "clash")
        seven = seven.put((0, 0, 0), ("choose", ("read", "h"), ("store", "x", 1), 1))
        self.assertEqual(told(guard_paper, seven), ("TooMany", {"limit": 64}))

    def test_new_lists(self):
        task = task_of("(x && y)")
        paper = guard_paper(task=task)
        paper[3][2][1].clear()
        self.assertEqual([len(tree[1]) for tree in guard_paper(task)[3][2:]], [2, 3])
        same = guard_paper(task_of("(x ? 1 : 2)"))
        same[3][2][1].clear()
        self.assertEqual(len(same[3][3][1]), 2)

    def test_states_of_calls_and_stores(self):
        task = task_of("((m(1), (x && 2)) +; y++)")
        paper = guard_paper(task)
        self.assertEqual((paper[0], holds(WIDE, paper)), ("calm", True))
        self.check_tree(task, paper[3], {})


class General(unittest.TestCase):
    def test_guarded_first(self):
        task = Task(WIDE, ("op", "+", in_parallel(*["X"] * 7), ("op", "+", 1, ("or", 1, 2))))
        for call in (agreement_paper, fewest_paper, lambda one: likeness_paper(one, one),
                     lambda one: path_paper(one, None, None), lambda one: likeness_paper(Task(WIDE, 1), one)):
            self.assertEqual(told(call, task), ("Guarded", {"path": (1, 1)}))

    def test_500_and_501_classes(self):
        self.assertEqual(told(agreement_paper, Task(WIDE, CLASSES_501)), ("TooMany", {"limit": 500}))
        for expression in (CLASSES_500, CLASSES_SIXTEEN):
            task = Task(WIDE, expression)
            self.assertTrue(holds(WIDE, agreement_paper(task)))
            self.assertTrue(holds(WIDE, fewest_paper(task)))
        many = Task(WIDE, CLASSES_501)
        self.assertTrue(holds(WIDE, path_paper(many, (), next(iter([flips for flips in [()]])))))
        self.assertEqual(guard_paper(task_of("(n() + (n() + (n() + (n() + (n() + (n() + (n() + n())))))))"))[0], "clash")

    def test_nothing_changes(self):
        text = "((x = 1) + (x++ + 2))"
        task = task_of(text)
        for call in (agreement_paper, fewest_paper, guard_paper, lambda one: likeness_paper(one, one)):
            call(task)
            self.assertEqual((task, str(task)), (task_of(text), text))


if __name__ == "__main__":
    unittest.main()
