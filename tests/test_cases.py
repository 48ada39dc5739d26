"""Runs, cases and clashes [19] to [23], held against what the helper works out from the words of the document."""

import functools
import inspect
import random
import unittest

from ordersopen import cases as module
from ordersopen.cases import Run, case_results, cases, clash, runs
from ordersopen.results import all_results
from ordersopen.papers import guard_paper
from ordersopen.tasks import Task
from ordersopen.texts import read_task
from tests.helper import (
    CLASSES_501, WIDE, Seen, any_values, cases_in, drawn_tasks, is_clash_in, left_first, nested, orders_of, runs_in,
    texts_in, told,
)

# Each guard at the root and within each other form, guards as conditions and in branches, below points and `then`,
# conditions that are integers, and terms that several guards ask.
TEXTS = [
    "(x && y)", "(x || y)", "(x ? y : 1)", "(0 && x)", "(7 && x)", "(0 || x)", "(1 || x)", "(0 ? x : y)", "(2 ? x : y)",
    "((x && 1) + y)", "(x++ + (x || y))", "((x = 1) + (x ? 1 : 2))", "((x = 1) +; (x ? 1 : 2))", "((x ? 1 : 2) +; (x = 1))",
    "f((x && y))", "g((x || y), (x = 0))", "g((x || y); (x = 0))", "h((x ? 1 : 2), (y && x), (x = y))", "(z = (x && y))",
    "((x && y), (x = 1))", "((x = 1), (x && y))", "((x && y) && (x = 1))", "((x || y) ? (x && 1) : (y || 2))",
    "((x && y) ? 1 : 2)", "(((x ? 1 : 0) && y) || x)", "(x ? (y ? 1 : 2) : (y ? 3 : 4))", "((x ? 1 : 2) + (x ? 3 : 4))",
    "((x ? (x = 2) : (y = 2)) + (x && 1))", "(((1 + 2) ? x : y) + ((1 + 2) && 3))", "(((1 + 2) || x) + ((2 + 1) || x))",
    "((x = 0) && y)", "((x = 0) || y)", "((x = 5) ? y : 1)", "(x++ ? x : y)", "(++x ? x : y)", "(k() && x)", "(n() ? y : 1)",
    "(n() + (y ? 1 : 2))", "((f(1) && 2) + y)", "((n() && n()) + n())", "((x, y) ? 1 : 2)", "((x = y) ? x : 0)",
    "(((x = 1) + (x = 0)), (x ? (y = 1) : (y = 2)))", "((x = 1) + ((x = 0) + (x ? y : (y = 2))))", "7", "x", "(x++ + x++)",
    "((x ? 1 : 2), ((x && 3), (x || 4)))", "((x < 1) ? (x - 1) : (x * 1))", "((x && (y && 1)) + (x = 2))",
    "(((x && y) + (x = 1)) ? 1 : 2)", "((0 ? x : (1 && 2)) + x)", "(m((x && 1)) + (y ? 1 : 2))", "(x && (x && (x && y)))",
]


VALUES_ASKED_LATER = [
    "((x = 1) + ((x + y) ? 1 : 2))", "((x = 1) + ((y * (x - 7)) || 2))", "((x = 1) + (g(x, y) && 2))",
    "((x = 1) + (g((x, y), x) && 2))", "((x = 1) + (g(x, (y, x)) && 2))", "(((x = 1) + (z = (x + y))), (z && 1))",
    "((x = 1) + ((z = (w = (x + y))) ? 1 : 2))", "(((x = 1) + (z = g(x, y))), (z && 1))",
    "(((x = 1) + f((x + w))), (y && 1))", "(((x = 1) + (f((x + w)), 7)), (y && 1))", "(((x = 1) + (0, f((x + w)))), (y && 1))",
    "((x = 1) + ((7, (x + y)) ? 1 : 2))", "((x = 1) + ((1 ? (x + y) : 2) ? 3 : 4))", "((x = 1) + ((0 || (x + y)) && 4))",
    "((x++ + (x = 5)), (x && 1))", "((--x * (x = 5)), (x && 1))", "((x = 1) + ((f((x + w)) + y) && 1))",
]


def task_of(text):
    return read_task(WIDE, text)


def ask_in_turn(many, first):
    """An expression without steps that asks so many terms, each if the one before is true: one case more than terms."""
    expression = 1
    for at in range(many):
        expression = ("and", ("op", "+", first + at, 0), expression)
    return expression


@functools.lru_cache
def small_tasks():
    """Tasks with at most four terms to ask and not too many runs."""
    drawn = [task for task in drawn_tasks(91, 80, 5, guards=True) if len(texts_in(task)) <= 4]
    return tuple([task_of(text) for text in TEXTS] + drawn)


class Runs(unittest.TestCase):
    def check(self, run, seen):
        """Hold a run against what is to be seen of it."""
        self.assertEqual(run.done, seen.order)
        self.assertEqual(run.asked, seen.asking[0] if seen.asking else None)
        self.assertEqual(run.ready, seen.ready)
        self.assertEqual(run.truths, tuple(sorted(seen.used.items())))
        self.assertIs(run.is_over, seen.is_over)
        self.assertEqual(run.outcome, seen.result() if seen.is_over else None)
        self.assertEqual(run.state(), seen.state())
        self.assertEqual(len(run), len(seen.order))
        self.assertIs(bool(run), len(seen.order) > 0)

    def follow(self, task, draw, given):
        """Do a run by chance, with truths by chance, and some of them passed."""
        run, known, order = Run(task, tuple(given.items())), dict(given), ()
        while True:
            seen = Seen(task, order, known)
            self.check(run, seen)
            if seen.is_over:
                return known
            if seen.asking:
                known[seen.asking[0]] = draw.random() < 0.5
                self.assertIsNone(run.tell(known[seen.asking[0]]))
            else:
                order += (draw.choice(seen.ready),)
                self.assertIsNone(run.do(order[-1]))

    def test_each_step_of_runs_by_chance(self):
        draw = random.Random(92)
        for task in [*small_tasks(), *drawn_tasks(93, 40, 10, guards=True)]:
            known = self.follow(task, draw, {})
            self.follow(task, draw, known)
            some = {text: not truth for text, truth in known.items() if draw.random() < 0.5}
            self.follow(task, draw, {**some, "no term": True, "": False})

    def test_worked_out_by_hand(self):
        task = task_of("((x = 5) + (x ? (y = 1) : 2))")
        run = Run(task)
        self.assertEqual((run.done, run.asked, run.ready, run.truths, run.is_over, run.outcome, run.state(), len(run)),
                         ((), None, [0, 1], (), False, None, ((), ()), 0))
        run.do(1)
        self.assertEqual((run.done, run.asked, run.ready, run.truths, run.is_over, run.outcome, run.state(), len(run)),
                         ((1,), "x", [], (), False, None, (((1, ("first", "x")),), ()), 1))
        run.tell(True)
        self.assertEqual((run.asked, run.ready, run.truths), (None, [0, 2], (("x", True),)))
        run.do(2)
        self.assertEqual((run.ready, run.state()), ([0], (((1, ("first", "x")), (2, ())), (("y", 1),))))
        run.do(0)
        shown = (("+", 5, 1), (("x", 5), ("y", 1)))
        self.assertEqual((run.done, run.ready, run.is_over, run.outcome), ((1, 2, 0), [], True, shown))
        self.assertEqual(run.finish(), shown)

    def test_a_guard_is_decided_without_a_step(self):
        run = Run(task_of("((1 ? x : y) + (0 || (2 && 3)))"))
        self.assertEqual((run.ready, run.truths, run.asked), ([0], (), None))
        self.assertEqual(run.finish(), (("+", ("first", "x"), 3), ()))
        run = Run(task_of("(0 && x)"))
        self.assertEqual((run.is_over, run.outcome, run.ready), (True, (0, ()), []))
        run = Run(task_of("((1 + 2) && 5)"))
        self.assertEqual((run.asked, run.is_over, run.outcome, run.ready), ("(1 + 2)", False, None, []))
        run.tell(False)
        self.assertEqual((run.is_over, run.outcome), (True, (("+", 1, 2), ())))

    def test_the_first_guard_in_preorder_asks(self):
        run = Run(task_of("((x ? 1 : 2) + (y ? 3 : 4))"))
        run.do(1)
        self.assertEqual(run.asked, "y")
        run.tell(True)
        run.do(0)
        self.assertEqual(run.asked, "x")
        run = Run(task_of("(((1 + 1) ? 1 : 2) + ((1 + 2) ? 3 : 4))"))
        self.assertEqual(run.asked, "(1 + 1)")
        run.tell(False)
        self.assertEqual((run.asked, run.truths), ("(1 + 2)", (("(1 + 1)", False),)))
        run.tell(True)
        self.assertEqual((run.outcome, run.truths), ((("+", 2, 3), ()), (("(1 + 1)", False), ("(1 + 2)", True))))

    def test_one_term_is_asked_once(self):
        run = Run(task_of("((x ? 1 : 2) + (x ? 3 : 4))"))
        run.do(1)
        run.tell(True)
        run.do(0)
        self.assertEqual((run.asked, run.outcome), (None, (("+", 1, 3), ())))

    def test_truths_that_are_passed(self):
        task = task_of("((x ? 1 : 2) + (y ? 3 : 4))")
        run = Run(task, (("y", True), ("z", False), ("x", False)))
        self.assertEqual((run.truths, run.finish(), run.truths),
                         ((), (("+", 2, 3), ()), (("x", False), ("y", True))))
        run = Run(truths=(("x", True),), task=task)
        self.assertEqual(told(run.finish), ("Asked", {"text": "y"}))
        self.assertEqual((run.truths, run.done), ((("x", True),), (0, 1)))
        run = Run(task, (("f(x)", True), ("7", False), ("", True)))
        run.do(0)
        self.assertEqual((run.asked, run.truths), ("x", ()))
        self.assertEqual(Run(task_of("(7 && 2)"), (("7", False),)).outcome, (2, ()))

    def test_do_with_a_step_that_is_not_ready(self):
        task = task_of("((x = (x + 1)) +; (y ? y : x++))")
        run = Run(task)
        self.assertEqual(run.ready, [0])
        for step in [1, 2, 3, 4, 5, 6, -1, True, False, 0 == 0, None, "0", (0,), [0], 10 ** 39]:
            self.assertEqual(told(run.do, step), ("NotReady", {"step": step}))
        for step in any_values():
            if step != 0 or step is False:
                self.assertEqual(told(run.do, step), ("NotReady", {"step": step}))
        run.do(0)
        self.assertEqual(told(run.do, 0), ("NotReady", {"step": 0}))
        run.do(step=1)
        self.assertEqual(told(run.do, True), ("NotReady", {"step": True}))
        run.do(2)
        for step in [0, 3, 4, True, None, "x", *any_values()]:
            self.assertEqual(told(run.do, step), ("Asked", {"text": "y"}))
        run.tell(truth=False)
        self.assertEqual((run.ready, run.done), ([4], (0, 1, 2)))
        self.assertEqual(told(run.do, 3), ("NotReady", {"step": 3}))
        run.finish()
        for step in range(8):
            self.assertEqual(told(run.do, step), ("NotReady", {"step": step}))
        self.assertEqual(run.done, (0, 1, 2, 4, 5))

    def test_tell_when_nothing_is_asked(self):
        run = Run(task_of("(x && y)"))
        for truth in (True, False, None, 7, "x"):
            self.assertEqual(told(run.tell, truth), ("NotAsked", {}))
        run.do(0)
        run.tell(True)
        self.assertEqual(told(run.tell, True), ("NotAsked", {}))
        run.finish()
        self.assertEqual(told(run.tell, True), ("NotAsked", {}))

    def test_finish_stops_at_a_question(self):
        task = task_of("((x = 1) + ((y && z) + (x ? 1 : 2)))")
        run = Run(task)
        self.assertEqual(told(run.finish), ("Asked", {"text": "y"}))
        self.assertEqual((run.done, run.outcome), ((0, 1), None))
        self.assertEqual(told(run.finish), ("Asked", {"text": "y"}))
        run.tell(True)
        # The 1 that was stored needs no truth.
        self.assertEqual(run.finish(), (("+", 1, ("+", ("first", "z"), 1)), (("x", 1),)))
        self.assertEqual(run.done, (0, 1, 2, 3))
        for task in small_tasks():
            seen = Seen(task, (), {})
            while seen.ready:
                seen = Seen(task, (*seen.order, seen.ready[0]), {})
            run = Run(task)
            self.assertEqual(told(run.finish), ("Asked", {"text": seen.asking[0]}) if seen.asking else None)
            self.assertEqual(run.done, seen.order)

    def test_tasks_without_guards(self):
        for task in drawn_tasks(94, 20, 12):
            run = Run(task)
            shown = run.finish()
            self.assertEqual((run.done, shown), (tuple(range(len(task))), left_first(task, {}, ()).result()))
        run = Run(Task(WIDE, 7))
        self.assertEqual((run.is_over, run.outcome, run.finish(), run.state()), (True, (7, ()), (7, ()), ((), ())))

    def test_a_large_task(self):
        expression = ("op", "+", ("step", "x", 1, "after"), ("choose", ("read", "x"), ("store", "y", 1), 2))
        for _ in range(4):
            expression = ("op", "+", expression, expression)
        run = Run(Task(WIDE, expression), tuple((text, True) for text in ["x"]))
        while not run.is_over:
            if run.asked is not None:
                run.tell(len(run) > 30)
            else:
                run.do(run.ready[-1])
        self.assertGreater(len(run), 40)

    def test_a_list_of_ready_steps_is_new(self):
        run = Run(task_of("(x + y)"))
        run.ready.append(7)
        run.ready.clear()
        self.assertEqual(run.ready, [0, 1])
        self.assertEqual(told(run.do, 7), ("NotReady", {"step": 7}))

    def test_two_runs_share_no_state(self):
        task = task_of("((x && y) + (x = 1))")
        one, other = Run(task), Run(task)
        one.do(0)
        one.tell(True)
        self.assertEqual((other.done, other.ready, other.truths, other.state()), ((), [0, 2], (), ((), ())))
        other.do(0)
        self.assertEqual((other.asked, one.asked), ("x", None))


class Trials(unittest.TestCase):
    def setUp(self):
        self.run_ = Run(task_of("((x = 5) + (x ? (y = 1) : 2))"))

    def shown(self):
        run = self.run_
        return (run.done, run.asked, run.ready, run.truths, run.is_over, run.outcome, run.state(), len(run))

    def test_steps_truths_and_finish(self):
        def function(run):
            self.assertIs(run, self.run_)
            run.do(1)
            run.tell(True)
            run.do(0)
            return run.finish(), run.done

        before = self.shown()
        self.assertEqual(self.run_.trial(function), ((("+", 5, 1), (("x", 5), ("y", 1))), (1, 0, 2)))
        self.assertEqual(self.shown(), before)
        self.run_.do(1)
        before = self.shown()
        self.assertIsNone(self.run_.trial(lambda run: run.tell(False)))
        self.assertEqual(self.shown(), before)
        self.run_.tell(True)
        before = self.shown()
        self.assertEqual(self.run_.trial(function=lambda run: run.finish()), (("+", 5, 1), (("x", 5), ("y", 1))))
        self.assertEqual(self.shown(), before)
        self.assertEqual(self.run_.finish(), (("+", 5, 1), (("x", 5), ("y", 1))))
        before = self.shown()
        self.assertEqual(self.run_.trial(len), 3)
        self.assertEqual(self.shown(), before)

    def test_errors_propagate(self):
        def wrong(run):
            run.do(1)
            run.do(0)

        def other(run):
            run.do(0)
            raise ZeroDivisionError("mine")

        before = self.shown()
        self.assertEqual(told(self.run_.trial, wrong), ("Asked", {"text": "x"}))
        self.assertEqual(self.shown(), before)
        with self.assertRaisesRegex(ZeroDivisionError, "mine"):
            self.run_.trial(other)
        self.assertEqual(self.shown(), before)
        self.assertEqual(told(self.run_.trial, lambda run: run.tell(True)), ("NotAsked", {}))
        with self.assertRaises(KeyboardInterrupt):
            self.run_.trial(lambda run: [run.do(1), (_ for _ in ()).throw(KeyboardInterrupt())])
        self.assertEqual(self.shown(), before)

    def test_trials_in_trials(self):
        def inner(run):
            run.do(0)
            run.finish()
            return run.done

        def outer(run):
            run.do(1)
            run.tell(False)
            within = run.trial(inner)
            self.assertEqual(run.done, (1,))
            self.assertEqual(told(run.trial, lambda same: same.do(7)), ("NotReady", {"step": 7}))
            run.do(0)
            return within, run.done

        before = self.shown()
        self.assertEqual(self.run_.trial(outer), ((1, 0), (1, 0)))
        self.assertEqual(self.shown(), before)


class Cases(unittest.TestCase):
    def test_cases_by_all_truths_and_all_runs(self):
        sizes = set()
        for task in small_tasks():
            self.assertEqual(cases(task), cases_in(task), str(task))
            sizes.add(len(cases(task)))
        self.assertLessEqual({1, 2, 3, 4}, sizes)

    def test_runs_results_and_clashes_of_all_cases(self):
        kinds = set()
        for task in small_tasks():
            for case in cases(task):
                rows = runs_in(task, dict(case))
                self.assertEqual(list(runs(task, case)), [order for order, seen in rows], str(task))
                shown = {}
                for order, seen in rows:
                    shown.setdefault(seen.result(), order)
                self.assertEqual(case_results(task, case), list(shown.items()), str(task))
                found = clash(task, case)
                self.assertEqual(found is None, len(shown) == 1, str(task))
                if found is not None:
                    self.assertIs(type(found), tuple)
                    self.assertTrue(is_clash_in(task, dict(case), *found), (str(task), case, found))
                kinds.add((found is None, len({len(order) for order, seen in rows}) == 1, case == ()))
        self.assertGreater(len(kinds), 4)

    def test_examples(self):
        maybe = task_of("((x = 5) + (x ? 1 : 2))")
        self.assertEqual([cases(maybe), len(case_results(maybe, (("x", False),))), clash(maybe, (("x", True),))],
                         [[(("x", False),), (("x", True),)], 2, None])
        run = Run(maybe)
        self.assertEqual([run.do(1), run.asked, run.tell(True), run.ready, run.finish()],
                         [None, "x", None, [0], (("+", 5, 1), (("x", 5),))])

    def test_tasks_without_guards(self):
        for task in drawn_tasks(95, 40, 6):
            self.assertEqual(cases(task), [()])
            self.assertEqual(list(runs(task)), orders_of(task))
            self.assertEqual(case_results(task), all_results(task))
            self.assertEqual(clash(task) is None, len(all_results(task)) == 1)
        self.assertEqual((cases(Task(WIDE, 7)), list(runs(Task(WIDE, 7)))), ([()], [()]))

    def test_guards_that_ask_nothing(self):
        task = task_of("((1 ? x : y) + (0 || (x = 2)))")
        self.assertEqual((cases(task), list(runs(task)), len(case_results(task))), ([()], [(0, 2), (2, 0)], 2))

    def test_guards_whose_terms_depend_on_the_order(self):
        task = task_of("((x = (1 + 2)) + (x ? 1 : 2))")
        both = [(("(1 + 2)", one), ("x", other)) for one in (False, True) for other in (False, True)]
        self.assertEqual(cases(task), both)
        task = task_of("((x = 0) + (x ? (y && 1) : 2))")
        self.assertEqual(cases(task), [(("x", False),), (("x", True), ("y", False)), (("x", True), ("y", True))])

    def test_values_that_come_to_be_asked_later(self):
        # After the store and the read of x, in whichever order, only the value that was read differs.
        for text in VALUES_ASKED_LATER:
            task = task_of(text)
            self.assertEqual(cases(task), cases_in(task), text)
            self.assertTrue([case for case in cases(task) if len(case) > 1], text)

    def test_values_that_no_guard_comes_to_ask(self):
        for text, unasked in [
            ("(x + y)", (0, 1)), ("(x = y)", (1,)), ("x++", (1,)), ("k()", (0,)), ("g(x, k())", (0, 1, 2)), ("f(x)", (1,)),
            ("(x ? y : k())", (1, 2)), ("((x, y) ? 1 : 2)", (0,)), ("((x ? y : k()) && 1)", ()), ("((x = g(y, k())), n())", (3, 4)),
            ("(z = (x, y))", (0, 2)), ("(g((x, y), 1) || x)", (0, 3)), ("(x++ + (y && --x))", (1, 4)),
        ]:
            task = task_of(text)
            self.assertEqual(tuple(step for step in range(len(task)) if (task.layout.unasked >> step) & 1), unasked, text)

    def test_terms_that_are_asked_in_some_runs_only(self):
        # y is asked only if x is read ahead of the 0, and is true.
        task = task_of("((x = 0) + (x ? (y ? 1 : 2) : 3))")
        case = (("x", True), ("y", False))
        self.assertEqual(list(runs(task, case)), [(0, 1), (1, 0, 2), (1, 2, 0)])
        self.assertEqual([order for shown, order in case_results(task, case)], [(0, 1), (1, 0, 2)])
        self.assertIsNone(clash(task, (("x", False),)))
        self.assertEqual(clash(task, case), ((), 0, 1))

    def test_64_and_more_cases(self):
        six = task_of("(((a ? 1 : 2) + (b ? 1 : 2)) + (((c ? 1 : 2) + (d ? 1 : 2)) + ((e ? 1 : 2) + (f ? 1 : 2))))")
        self.assertEqual(len(cases(six)), 64)
        self.assertEqual(cases(six), sorted(cases(six)))
        seven = task_of(f"({six} + (g ? 1 : 2))")
        self.assertEqual(told(cases, seven), ("TooMany", {"limit": 64}))
        # 64 + 1: the last term is asked in one of the cases only.
        more = six.put((1, 1, 1), ("choose", ("read", "f"), ("choose", ("read", "g"), 1, 2), 2))
        self.assertEqual(told(cases, more), ("TooMany", {"limit": 64}))
        some = task_of("(a && (b && (c && (d && (e && (f && (g && h)))))))")
        self.assertEqual(len(cases(some)), 8)
        case = tuple((place, True) for place in "abcdefg")
        self.assertEqual(len(next(runs(seven, case))), 7)
        self.assertEqual(len(case_results(seven, case)), 1)
        self.assertIsNone(clash(seven, case))
        for call in (case_results, clash, lambda task, case: list(runs(task, case))):
            self.assertEqual(told(call, seven, case[1:]), ("NoCase", {"case": case[1:]}))
            self.assertEqual(told(call, seven, (*case, ("h", True))), ("NoCase", {"case": (*case, ("h", True))}))
            self.assertEqual(told(call, seven, ()), ("NoCase", {"case": ()}))
            for value in any_values():
                self.assertEqual(told(call, seven, value), ("NoCase", {"case": value}))

    def test_just_64_and_just_65_cases(self):
        many = ("TooMany", {"limit": 64})
        for one, other, expected in [(7, 7, None), (3, 15, None), (15, 3, None), (4, 12, many), (12, 4, many)]:
            task = Task(WIDE, ("op", "+", ask_in_turn(one, 0), ask_in_turn(other, 100)))
            self.assertEqual(told(cases, task), expected)
            self.assertEqual(told(guard_paper, task), expected)
            if expected is None:
                self.assertEqual(len(cases(task)), 64)

    def test_no_case(self):
        task = task_of("((x = 0) + (x ? (y && 1) : 2))")
        right = (("x", True), ("y", False))
        wrong = [
            (("x", True),), (("y", False),), (("x", False), ("y", False)), (("y", False), ("x", True)), (),
            (("x", True), ("x", True), ("y", False)), (("x", True), ("y", False), ("y", True)),
            (("x", True), ("y", False), ("z", True)), (("0", False), ("x", True), ("y", False)),
            (("x", 1), ("y", False)), (("x", True), ("y", 0)), [("x", True), ("y", False)], (["x", True], ("y", False)),
            (("x", True, 1), ("y", False)), (("x",), ("y", False)), ((("x", True), ("y", False)),), ("x", True),
            (("x", None), ("y", False)), ((b"x", True), ("y", False)), (("", True), ("x", True), ("y", False)), None, "x",
            nested(tuple, 80), (("x", "True"), ("y", "False")), (("x", [True]), ("y", False)), ((1, True), ("y", False)),
        ]
        for call in (case_results, clash, lambda task, case: list(runs(task, case))):
            self.assertIsNone(told(call, task, right))
            self.assertIsNone(told(call, task, (("x", False),)))
            for case in [*wrong, *any_values()]:
                self.assertEqual(told(call, task, case), ("NoCase", {"case": case}))
            for case in any_values():
                expected = None if case == () else ("NoCase", {"case": case})
                self.assertEqual(told(call, task_of("(x + y)"), case), expected)
                self.assertEqual(told(call, task_of("(1 ? x : y)"), case), expected)

    def test_runs_raises_when_its_first_item_is_asked_for(self):
        self.assertTrue(inspect.isgeneratorfunction(module.runs))
        rows = runs(task_of("(x && y)"), (("x", 7),))
        self.assertEqual(told(next, rows), ("NoCase", {"case": (("x", 7),)}))
        rows = runs(task_of("(x && y)"))
        self.assertEqual(told(next, rows), ("NoCase", {"case": ()}))

    def test_runs_are_yielded_one_after_another(self):
        task = task_of("(((n() + n()) + (n() + n())) + ((n() + n()) + (n() + n())))")
        rows = runs(task)
        self.assertEqual([next(rows), next(rows)], [(0, 1, 2, 3, 4, 5, 6, 7), (0, 1, 2, 3, 4, 5, 7, 6)])

    def test_eight_steps(self):
        task = task_of("(((n() + n()) + (n() + n())) + ((n() + n()) + (n() + (y ? 1 : 2))))")
        self.assertEqual(told(cases, task), ("TooMany", {"limit": 64}))
        task = task_of("(((n() + n()) + (n() + n())) + ((n() + n()) + (n() + (x ? 1 : 2))))")
        self.assertEqual(cases(task), [(("x", False),), (("x", True),)])
        prefix, one, other = clash(task, (("x", True),))
        self.assertTrue(is_clash_in(task, {"x": True}, prefix, one, other))
        task = task_of("(((a + b) + (c + d)) + ((e + f) + (g && h)))")
        self.assertEqual([len(case_results(task, case)) for case in cases(task)], [1, 1])

    def test_more_than_500_classes_do_not_matter(self):
        task = Task(WIDE, CLASSES_501)
        self.assertEqual(next(runs(task)), tuple(range(len(task))))

    def test_by_name_and_new_lists(self):
        task = task_of("((x = 5) + (x ? 1 : 2))")
        case = (("x", False),)
        self.assertEqual(cases(task=task), cases(task))
        self.assertEqual(list(runs(case=case, task=task)), list(runs(task, case)))
        self.assertEqual(case_results(case=case, task=task), case_results(task, case))
        self.assertEqual(clash(case=case, task=task), clash(task, case))
        cases(task).clear()
        case_results(task, case).clear()
        self.assertEqual((len(cases(task)), len(case_results(task, case))), (2, 2))
        self.assertEqual(task, task_of("((x = 5) + (x ? 1 : 2))"))


class States(unittest.TestCase):
    def test_the_state_decides_all_that_can_follow(self):
        for task in small_tasks()[:60]:
            for case in cases(task):
                known = {}
                for order, seen in runs_in(task, dict(case)):
                    for many in range(len(order) + 1):
                        run = Run(task, case)
                        for step in order[:many]:
                            run.do(step)
                        follows = (tuple(run.ready), run.truths, run.trial(lambda same: same.finish()))
                        self.assertEqual(known.setdefault(run.state(), follows), follows, str(task))


if __name__ == "__main__":
    unittest.main()
