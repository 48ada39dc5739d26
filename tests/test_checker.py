"""The checker, held against a judge that is made from [24] and [13] to [23] alone."""

import functools
import itertools
import random
import unittest

from ordersopen.checker import holds
from ordersopen.errors import NoExpression, NoPoints, TooMany
from ordersopen.functions import Book
from ordersopen.papers import agreement_paper, fewest_paper, guard_paper, likeness_paper, path_paper
from ordersopen.tasks import Task
from ordersopen.texts import read_task
from tests.helper import (
    BOOK, CLASSES_500, CLASSES_SIXTEEN, WIDE, Seen, Unknown, any_values, classes_in, done_in, drawn_tasks, in_parallel,
    left_first, nested, node_of, prefixes_in, races_of, told,
)


def same(one, other):
    """Whether two values are equal, down to the kinds of all that is within."""
    if type(one) is not type(other):
        return False
    if isinstance(one, (list, tuple)):
        return len(one) == len(other) and all(map(same, one, other))
    return one == other


def at_in(value, rows):
    """The index of the row that is the same as a value; None if there is none."""
    return next((at for at, row in enumerate(rows) if same(value, row)), None)


class Facts:
    """What the judge has to know of a task, worked out once."""

    def __init__(self, book, expression, points):
        self.task = Task(book, expression, points=points)
        forms = [node_of(expression, path) for path in self.task.nodes()]
        self.is_bare = all(isinstance(node, int) or node[0] not in ("and", "or", "choose") for node in forms)
        if self.is_bare:
            found = {flips: done_in(self.task, orders[0]) for flips, orders in classes_in(self.task).items()}
            self.classes, self.results, self.races = list(found), list(found.values()), races_of(self.task)

    def flipped(self, flips, pair):
        """The index of the class after a flip; None if it is none."""
        return at_in(tuple(sorted(set(flips) ^ {pair})), self.classes)

    def results_listed(self, value):
        """The results of a list as in an agree paper; None if it is none."""
        if type(value) is not list or not value:
            return None
        found = [at_in(flips, self.classes) for flips in value]
        if None in found or len(set(found)) < len(found):
            return None
        after = {self.flipped(self.classes[at], pair) for at in found for pair in self.races} - {None}
        return [self.results[at] for at in found] if after <= set(found) else None

    def with_points(self, chosen):
        """The facts of the task with these points, too; None if these are no open nodes that are no points."""
        if type(chosen) is not tuple or any(at_in(path, self.task.open_nodes()) is None for path in chosen):
            return None
        if any(not one < other for one, other in zip(chosen, chosen[1:])):
            return None
        return facts(self.task.book, self.task.expression, tuple(sorted((*self.task.points, *chosen))))

    @functools.cached_property
    def seen_under(self):
        return {}

    def known(self, given):
        """All (prefix, Seen) under these truths; None if another one is asked."""
        key = tuple(sorted(given.items()))
        if key not in self.seen_under:
            try:
                self.seen_under[key] = prefixes_in(self.task, given)
            except Unknown:
                self.seen_under[key] = None
        return self.seen_under[key]


KNOWN = {}


def facts(book, expression, points, bare=True):
    """The facts of a task; None if it is no task, or if it has a guard and must not."""
    key = repr((book.names, expression, points))
    if key not in KNOWN:
        try:
            KNOWN[key] = Facts(book, expression, points)
        except (NoExpression, NoPoints, TooMany):
            KNOWN[key] = None
    found = KNOWN[key]
    return None if found is None or (bare and not found.is_bare) else found


def judge_agree(book, expression, points, classes, result):
    here = facts(book, expression, points)
    results = here and here.results_listed(classes)
    return bool(results) and all(same(one, result) for one in results)


def judge_differ(book, expression, points, flips, pair):
    here = facts(book, expression, points)
    if here is None or at_in(flips, here.classes) is None or at_in(pair, here.races) is None:
        return False
    after = here.flipped(flips, pair)
    return after is not None and here.results[after] != here.results[at_in(flips, here.classes)]


def judge_path(book, expression, points, classes):
    here = facts(book, expression, points)
    if here is None or type(classes) is not list or not classes:
        return False
    if any(at_in(flips, here.classes) is None for flips in classes):
        return False
    flips = [set(one) ^ set(other) for one, other in zip(classes, classes[1:])]
    return all(len(flip) == 1 for flip in flips) and len(set().union(*flips)) == len(flips)


def judge_fewest(book, expression, points, chosen, classes, rows):
    here = facts(book, expression, points)
    fixed = here and here.with_points(chosen)
    results = fixed and fixed.results_listed(classes)
    if not results or len(set(results)) > 1 or type(rows) is not list:
        return False
    smaller = list(itertools.combinations(here.task.open_nodes(), len(chosen) - 1)) if chosen else []
    if any(type(row) is not tuple or len(row) != 2 for row in rows) or not same([row[0] for row in rows], smaller):
        return False
    first = here.results[here.classes.index(())]
    for nodes, flips in rows:
        at = at_in(flips, here.classes)
        if at is None or here.results[at] == first or not remains(here, nodes, flips):
            return False
    return True


def remains(here, nodes, flips):
    """[17]: by an order of the class in which the steps precede as they do with these points, too."""
    order = {order for orders in [classes_in(here.task)[flips]] for order in orders}
    return bool(order & {order for orders in classes_in(here.with_points(nodes).task).values() for order in orders})


def judge_alike(book, expression, points, other, other_points, ones, others):
    here, there = facts(book, expression, points), facts(book, other, other_points)
    results = here and there and here.results_listed(ones)
    theirs = results and there.results_listed(others)
    return bool(theirs) and set(results) == set(theirs)


def judge_apart(book, expression, points, other, other_points, flips, others):
    here, there = facts(book, expression, points), facts(book, other, other_points)
    theirs = here and there and there.results_listed(others)
    at = at_in(flips, here.classes) if theirs else None
    return at is not None and here.results[at] not in theirs


def judge_calm(book, expression, points, tree):
    here = facts(book, expression, points, bare=False)
    return here is not None and judge_tree(here, tree, {})


def judge_tree(here, tree, given):
    if type(tree) is tuple and len(tree) == 4 and same(tree[0], "ask") and type(tree[1]) is str and tree[1] not in given:
        return all(judge_tree(here, tree[at], {**given, tree[1]: at == 3}) for at in (2, 3))
    if type(tree) is not tuple or len(tree) != 2 or not same(tree[0], "states") or type(tree[1]) is not list:
        return False
    known = here.known(given)
    if known is None or len({seen.result() for order, seen in known if seen.is_over}) != 1:
        return False
    states = list({seen.state() for order, seen in known})
    found = [at_in(state, states) for state in tree[1]]
    return None not in found and sorted(found) == list(range(len(states)))


def judge_clash(book, expression, points, truths, prefix, one, other):
    here = facts(book, expression, points, bare=False)
    if here is None or type(truths) is not tuple or type(prefix) is not tuple:
        return False
    if any(type(row) is not tuple or [type(item) for item in row] != [str, bool] for row in truths):
        return False
    texts, given = [text for text, truth in truths], dict(truths)
    if texts != sorted(set(texts)) or any(type(step) is not int for step in (*prefix, one, other)):
        return False
    try:
        seen = Seen(here.task, (), given)
        for step in prefix:
            if step not in seen.ready:
                return False
            seen = seen.after(step)
        if one not in seen.ready or other not in seen.ready or (one, other) not in races_of(here.task):
            return False
        ends = [left_first(here.task, given, (*prefix, *pair)) for pair in ((one, other), (other, one))]
    except Unknown:
        return False
    return ends[0].result() != ends[1].result() and set(ends[0].used) | set(ends[1].used) == set(texts)


JUDGES = {"agree": (5, judge_agree), "differ": (5, judge_differ), "path": (4, judge_path), "fewest": (6, judge_fewest),
          "alike": (7, judge_alike), "apart": (7, judge_apart), "calm": (4, judge_calm), "clash": (7, judge_clash)}


def judge(book, value):
    """Whether a value is a paper that shows what it says."""
    if type(value) is not tuple or not value or type(value[0]) is not str or value[0] not in JUDGES:
        return False
    length, judge_kind = JUDGES[value[0]]
    return len(value) == length and judge_kind(book, *value[1:])


ODD = [0, 1, 2, -1, True, False, None, "", "x", "states", (), [], ((),), [()], (0, 1), [0, 1], (("x", True),), nested(list, 80)]


def changed(value):
    """A value with each part replaced, left out, put in twice, exchanged or turned into another kind, at every depth."""
    yield from ODD
    if isinstance(value, bool):
        yield from (int(value), str(value))
    elif isinstance(value, int):
        yield from (value + 1, bool(value), str(value), (value,))
    elif isinstance(value, str):
        yield from (value + "x", value[:-1], (value,))
    elif isinstance(value, (list, tuple)):
        kind = type(value)
        yield list(value) if kind is tuple else tuple(value)
        yield kind(value[::-1])
        for at in range(len(value)):
            yield value[:at] + value[at + 1:]
            yield value[:at] + value[at:at + 1] + value[at:]
            yield kind([*value[:at], *value[at:at + 2][::-1], *value[at + 2:]])
            for part in ODD:
                yield value[:at] + kind([part]) + value[at:]
            for part in changed(value[at]):
                yield value[:at] + kind([part]) + value[at + 1:]


def task_of(text):
    return read_task(WIDE, text)


def papers():
    """Papers of every kind, as they are written."""
    twice, same_stores = task_of("(x++ + x++)"), task_of("((x = 1) * (x = 1))")
    crossed = task_of("(((x = 1) + (y = 2)) + (y + x))")
    found = [
        agreement_paper(same_stores), agreement_paper(task_of("f((x, 7))")), agreement_paper(twice),
        agreement_paper(task_of("(k() + f(1))")), agreement_paper(task_of("1")),
        path_paper(twice, (), ((0, 3), (1, 2), (1, 3))), path_paper(twice, ((1, 2),), ((1, 2),)),
        path_paper(crossed, ((0, 3),), ((1, 2),)),
        fewest_paper(task_of("(((x = 1) + (x = 2)), ((y = 1) + (y = 2)))")), fewest_paper(same_stores),
        fewest_paper(task_of("((x + (x = 1)) +; 2)")),
        likeness_paper(task_of("((x = 1) + 0)"), task_of("((x = 1) +; 0)")),
        likeness_paper(task_of("((x = 1) + x)"), task_of("((x = 1) +; x)")),
        likeness_paper(task_of("((x = 1) +; x)"), task_of("((x = 1) + x)")),
        likeness_paper(same_stores, task_of("((x = 1) *; (x = 1))")),
        guard_paper(task_of("(x ? 1 : 2)")), guard_paper(task_of("((x && 1) + 1)")), guard_paper(task_of("(x, 1)")),
        guard_paper(task_of("((x = 5) + (x ? 1 : 2))")), guard_paper(same_stores), guard_paper(twice),
        guard_paper(task_of("((1 + 2) && x)")), guard_paper(task_of("((x = 1) + (y = (x && 2)))")),
    ]
    kinds = {paper[0] for paper in found}
    assert kinds == set(JUDGES), kinds
    return found


class Holds(unittest.TestCase):
    def check(self, value, book=WIDE):
        answer = holds(book, value)
        self.assertIs(type(answer), bool)
        self.assertEqual(answer, judge(book, value), repr(value)[:2000])
        return answer

    def test_papers_as_they_are_written(self):
        for paper in papers():
            self.assertIs(self.check(paper), True)
            self.assertIs(holds(value=paper, book=WIDE), True)
            self.assertIs(holds(Book(*(WIDE[name] for name in WIDE.names[::-1])), paper), True)

    def test_each_part_changed_at_every_depth(self):
        answers = []
        for paper in papers():
            variants = {repr(value): value for value in changed(paper) if len(repr(value)) < 3000}
            draw = random.Random(repr(paper))
            for key in draw.sample(sorted(variants), min(len(variants), 1500)):
                answers.append(self.check(variants[key]))
        self.assertGreater(answers.count(True), 20)

    def test_papers_of_drawn_tasks(self):
        draw = random.Random(101)
        for task in drawn_tasks(102, 25, 5):
            if len(task.open_nodes()) > 5:
                continue
            for paper in (agreement_paper(task), fewest_paper(task), guard_paper(task)):
                self.assertTrue(self.check(paper))
                variants = [value for value in changed(paper) if len(repr(value)) < 5000]
                for value in draw.sample(variants, min(len(variants), 40)):
                    self.check(value)

    def test_guard_papers_of_drawn_tasks(self):
        draw = random.Random(103)
        for task in drawn_tasks(104, 40, 4, guards=True):
            paper = guard_paper(task)
            self.assertTrue(holds(WIDE, paper))
            if len(repr(paper)) > 1500:
                continue
            self.assertTrue(self.check(paper))
            variants = [value for value in changed(paper) if len(repr(value)) < 5000]
            for value in draw.sample(variants, min(len(variants), 40)):
                self.check(value)

    def test_any_value(self):
        for value in any_values():
            self.assertIs(self.check(value), False)
        for kind, (length, judge_kind) in JUDGES.items():
            for value in any_values():
                for many in range(length + 2):
                    self.assertIs(holds(WIDE, (kind, *[value] * many)), False)
                    self.assertIs(holds(WIDE, [kind, *[value] * many]), False)
        for paper in papers():
            for at in range(1, len(paper)):
                for value in any_values():
                    self.assertIs(type(holds(WIDE, (*paper[:at], value, *paper[at + 1:]))), bool)

    def test_papers_of_another_task_or_book(self):
        for one, other in itertools.permutations(papers(), 2):
            if one[0] == other[0]:
                self.check((one[0], *other[1:3], *one[3:]))
                self.check((*one[:2], other[2], *one[3:]))
        for paper in papers():
            for book in (BOOK, Book()):
                self.check(paper, book)
        paper = agreement_paper(task_of("f((x, 7))"))
        self.assertEqual([holds(book, paper) for book in (WIDE, BOOK, Book())], [True, True, False])

    def test_tasks_with_guards(self):
        guarded = ("choose", 1, ("store", "x", 1), 2)
        shown = (1, (("x", 1),))
        for paper in [
            ("agree", guarded, (), [()], shown), ("path", guarded, (), [()]), ("fewest", guarded, (), (), [()], []),
            ("alike", guarded, (), guarded, (), [()], [()]), ("alike", ("store", "x", 1), (), guarded, (), [()], [()]),
            ("alike", guarded, (), ("store", "x", 1), (), [()], [()]), ("apart", guarded, (), 7, (), (), [()]),
            ("apart", 7, (), guarded, (), (), [()]),
        ]:
            self.assertIs(self.check(paper), False)
        self.assertIs(self.check(("alike", ("store", "x", 1), (), ("store", "x", 1), (), [()], [()])), True)
        self.assertIs(self.check(("apart", ("store", "x", 1), (), 7, (), (), [()])), True)
        self.assertIs(self.check(guard_paper(Task(WIDE, guarded))), True)

    def test_calm_trees(self):
        task = task_of("((x ? 1 : 2) + 3)")
        kind, expression, points, tree = guard_paper(task)
        word, text, no, yes = tree
        states = no[1]
        two = [((), ()), (((0, ("first", "x")),), ())]
        self.assertEqual((word, text, no, yes), ("ask", "x", ("states", states), ("states", states)))
        self.assertEqual(sorted(states), sorted(two))
        for other, answer in [
            (tree, True), (("ask", "x", yes, no), True), (("ask", "x", no, ("states", two[::-1])), True),
            (("ask", "y", tree, tree), True), (("ask", "", tree, tree), True), (("ask", "no term (", tree, tree), True),
            (("ask", "x", ("ask", "z", no, no), yes), True), (("ask", "x", ("ask", "x", no, no), yes), False),
            (("ask", "x", no, tree), False), (("ask", "y", tree, yes), False), (no, False), (("states", two), False),
            (("ask", "x", no, ("states", two[:1])), False), (("ask", "x", no, ("states", two[1:])), False),
            (("ask", "x", no, ("states", two + two[:1])), False), (("ask", "x", no, ("states", [])), False),
            (("ask", "x", no, ("states", tuple(two))), False), (["ask", "x", no, yes], False), (("ask", "x", no), False),
            (("ask", "x", no, ["states", two]), False), (("states", "x", no, yes), False), (("ask", ("x",), no, yes), False),
            (("ask", "x", no, ("states", [*two, (((0, 1),), ())])), False),
            (("ask", "x", no, ("states", [two[0], (((False, ("first", "x")),), ())])), False),
            (("ask", "x", no, ("states", [two[0], (((0, ("first", "y")),), ())])), False),
            (("ask", "x", no, ("states", [two[0], (((0, ["first", "x"]),), ())])), False),
            (("ask", "x", no, ("states", [two[0], (((0, ("first", "x")),), (("x", ("first", "x")),))])), False),
            (("ask", "x", no, ("states", [two[0], (((0, ()),), ())])), False),
        ]:
            self.assertIs(self.check((kind, expression, points, other)), answer, other)
        deep = tree
        for at in range(60):
            deep = ("ask", f"t{at}", tree, deep)
        self.assertIs(holds(WIDE, (kind, expression, points, deep)), True)
        # Calm in each list by itself, though not in all of them together; and not calm in one of the lists.
        self.assertIs(self.check(guard_paper(task_of("(x ? (y = 1) : (y = 2))"))), True)
        given = {"x": True}
        clashing = task_of("((x = 5) + (x ? 1 : 2))")
        states = list({seen.state() for order, seen in prefixes_in(clashing, given)})
        false = ("calm", clashing.expression, (), ("ask", "x", ("states", states), ("states", states)))
        self.assertIs(self.check(false), False)

    def test_terms_in_states(self):
        task = task_of("((f(1) + --x), (y && 2))")
        paper = guard_paper(task)
        self.assertIs(self.check(paper), paper[0] in ("calm", "clash"))
        task = task_of("(((x = (1 + y)), k()), (m(x) && 2))")
        kind, expression, points, tree = guard_paper(task)
        self.assertEqual(kind, "calm")
        self.assertIs(self.check((kind, expression, points, tree)), True)
        odd = [("first", ["x"]), ("value", ["k"], ()), ("value", "k", []), ("left", ["m"], "x", ()), ("left", "m", ["x"], ()),
               ("left", "m", "x", []), ("first", "x", "x"), ("+", 1), ("+", 1, 2, 3), ("+", [1], 2), ("?", 1, 2), ("value",),
               ("left",), ("first",), (), ("value", "k"), ("left", "m", "x"), (["first"], "x"), 1, True, ("+", True, 2), "x"]
        last, others = tree[2][1][-1], tree[2][1][:-1]
        for term in odd:
            rows = [((*last[0][:-1], (last[0][-1][0], term)), last[1]), (last[0], ((last[1][0][0], term), *last[1][1:])),
                    (last[0], ((term, last[1][0][1]), *last[1][1:])), (((term, 1), *last[0]), last[1])]
            for value in rows:
                paper = (kind, expression, points, (*tree[:2], ("states", [*others, value]), tree[3]))
                self.assertIs(self.check(paper), same(value, last))
        for value in list(changed(tree[2][1][-1]))[::3]:
            self.check((kind, expression, points, (*tree[:2], ("states", [*tree[2][1][:-1], value]), tree[3])))

    def test_clashes(self):
        task = task_of("((x = 5) + (x ? 1 : (y ? 2 : 3)))")
        expression = task.expression
        for truths, prefix, one, other, answer in [
            ((("x", True),), (), 0, 1, False), ((("x", False), ("y", True)), (), 0, 1, True),
            ((("x", False), ("y", False)), (), 0, 1, True), ((("x", True), ("y", True)), (), 0, 1, False),
            ((("x", False),), (), 0, 1, False), ((), (), 0, 1, False), ((("x", True),), (), 1, 0, False),
            ((("x", True),), (0,), 0, 1, False), ((("x", True),), (), 0, 0, False), ((("x", True),), (), 0, 2, False),
            ((("x", True),), (), False, True, False), ((("x", True),), (), 0, True, False), ((("x", True),), [], 0, 1, False),
            ((("x", 1),), (), 0, 1, False), ([("x", True)], (), 0, 1, False), ((["x", True],), (), 0, 1, False),
            ((("y", False), ("x", False)), (), 0, 1, False), ((("x", True), ("z", True)), (), 0, 1, False),
            ((("x", True), ("x", True)), (), 0, 1, False), ((("x", True),), (1,), 0, 1, False),
            ((("x", True),), (7,), 0, 1, False), ((("x", True),), ("0",), 0, 1, False),
        ]:
            self.assertIs(self.check(("clash", expression, (), truths, prefix, one, other)), answer, (truths, prefix))
        # A clash that is not at the begin, also with a step that is True.
        task = task_of("((y = 2) +; ((x = 5) + x))")
        self.assertIs(self.check(("clash", task.expression, ((),), (), (0,), 1, 2)), True)
        self.assertIs(self.check(("clash", task.expression, ((),), (), (False,), 1, 2)), False)
        self.assertIs(self.check(("clash", task.expression, ((),), (), (), 1, 2)), False)
        # Racing steps that lead to one result, and steps that do not race.
        self.assertIs(self.check(("clash", task_of("((x = 5) + (x = 5))").expression, (), (), (), 0, 1)), False)
        self.assertIs(self.check(("clash", task_of("(x + y)").expression, (), (), (), 0, 1)), False)

    def test_agree_papers_of_orders_that_do_not_agree(self):
        for task in [task_of("(x++ + x++)"), task_of("((x = 1) + x)"), *drawn_tasks(105, 30, 5)]:
            here = facts(WIDE, task.expression, task.points)
            for result in here.results:
                paper = ("agree", task.expression, task.points, here.classes, result)
                self.assertIs(self.check(paper), len(set(here.results)) == 1)

    def test_differ_papers_in_both_directions(self):
        for task in [task_of("(x++ + x++)"), task_of("((x = 1) + x)"), *drawn_tasks(106, 30, 5)]:
            here = facts(WIDE, task.expression, task.points)
            for flips, pair in itertools.product(here.classes[:12], here.races):
                self.check(("differ", task.expression, task.points, flips, pair))
        task = task_of("((x = 1) + x)")
        for flips in ((), ((0, 1),)):
            self.assertIs(self.check(("differ", task.expression, (), flips, (0, 1))), True)

    def test_words_that_are_no_kinds(self):
        for paper in papers():
            for word in ("", "x", "Agree", "agree ", "states", "ask", "keys", paper[0] + "s"):
                for many in range(len(paper) + 1):
                    self.assertIs(self.check((word, *paper[1:many + 1])), False)
            for many in range(len(paper)):
                self.assertIs(self.check(paper[:many]), False)
            self.assertIs(self.check((*paper, paper[-1])), False)

    def test_paths(self):
        task = task_of("(x++ + x++)")
        row = [(), ((1, 2),), ((1, 2), (1, 3)), ((0, 3), (1, 2), (1, 3))]
        for path, answer in [
            (row, True), (row[::-1], True), (row[:1], True), (row[1:3], True), ([], False), (row[:2] + row[:1], False),
            ([row[0], row[0]], False), ([row[0], row[2]], False), (tuple(row), False), (row + [row[3]], False),
            ([row[0], row[1], row[0], row[1]], False), ([(), ((1, 3),)], False), ([[]], False), ([None], False),
        ]:
            self.assertIs(self.check(("path", task.expression, (), path)), answer, path)

    def test_chosen_points_that_are_not_the_least(self):
        task = task_of("((x = 0) + ((x = 0) + x))")
        kind, expression, points, chosen, listed, rows = fewest_paper(task)
        self.assertEqual((chosen, [row[0] for row in rows]), (((),), [()]))
        other = task.with_points((1,))
        listed = [flips for flips in classes_in(other)]
        self.assertIs(self.check((kind, expression, points, ((1,),), listed, rows)), True)
        self.assertIs(self.check((kind, expression, points, ((), (1,)), [()], rows)), False)
        self.assertIs(self.check((kind, expression, points, (), listed, [])), False)

    def test_two_points_exclude_a_class_that_neither_excludes_alone(self):
        task = task_of("(((x = 1) + (y = 2)) + (y + x))")
        facts_here = facts(WIDE, task.expression, ())
        flips = ((0, 3),)
        self.assertTrue(remains(facts_here, ((0,),), flips) and remains(facts_here, ((1,),), flips))
        self.assertFalse(remains(facts_here, ((0,), (1,)), flips))
        kind, expression, points, chosen, listed, rows = fewest_paper(task)
        self.assertEqual(chosen, ((),))
        whole = [(nodes, next(one for one in facts_here.classes if one != () and remains(facts_here, nodes, one)))
                 for nodes in itertools.combinations(task.open_nodes(), 2) if () not in nodes]
        self.assertEqual(len(whole), 1)
        three = ((), (0,), (1,))
        rows = [(nodes, ((0, 3),)) for nodes in itertools.combinations(three, 2)]
        self.assertIs(self.check((kind, expression, points, three, [()], rows)), False)

    def test_large_papers(self):
        for expression in (CLASSES_500, CLASSES_SIXTEEN):
            task = Task(WIDE, expression)
            paper = agreement_paper(task)
            self.assertIs(holds(WIDE, paper), True)
            paper = likeness_paper(task, task)
            self.assertIs(holds(WIDE, paper), True)
            self.assertIs(holds(WIDE, (*paper[:-1], paper[-1][1:])), False)
            self.assertIs(holds(WIDE, (*paper[:-2], paper[-2][:-1], paper[-1])), False)
        task = Task(WIDE, ("then", in_parallel("XXX", "XXX", "yyyy", "Y"), ("then", ("store", "x", 1), 7)))
        paper = agreement_paper(task)
        self.assertEqual((paper[0], holds(WIDE, paper)), ("agree", True))
        self.assertIs(holds(WIDE, (*paper[:3], paper[3] * 2, paper[4])), False)
        self.assertIs(holds(WIDE, (*paper[:3], paper[3] * 50, paper[4])), False)

    def test_expressions_and_points_that_make_no_task(self):
        wide = 1
        for _ in range(7):
            wide = ("op", "+", wide, wide)
        deep = 1
        for _ in range(30):
            deep = ("store", "x", deep)
        for expression, points in [(wide, ()), (deep, ()), (("read", "X"), ()), (7, ((),)), (7, []), (True, ()), ("x", ()),
                                   (nested(tuple, 80), ()), (("op", "+", 1, 2), ((), ())), (("op", "+", 1, 2), ((0,),))]:
            self.assertIsNotNone(told(lambda: Task(WIDE, expression, points=points)))
            for kind, rest in [("agree", ([()], (7, ()))), ("path", ([()],)), ("fewest", ((), [()], [])), ("calm", (
                    ("states", [((), ())]),)), ("clash", ((), (), 0, 1)), ("differ", ((), (0, 1)))]:
                self.assertIs(self.check((kind, expression, points, *rest)), False)
            self.assertIs(self.check(("alike", 7, (), expression, points, [()], [()])), False)
            self.assertIs(self.check(("alike", expression, points, 7, (), [()], [()])), False)
            self.assertIs(self.check(("apart", 8, (), expression, points, (), [()])), False)
            self.assertIs(self.check(("apart", expression, points, 8, (), (), [()])), False)


if __name__ == "__main__":
    unittest.main()
