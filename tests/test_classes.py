"""Promises [13] and [14]: classes, the reversed pairs that tell them, flips, and paths of flips."""

import itertools
import unittest

from ordersopen.classes import (
    class_of, classes, count_classes, flip_path, flippable, flipped, is_class, least_order, orders_in)
from ordersopen.functions import Book, Function
from ordersopen.results import result
from ordersopen.steps import races
from ordersopen.tasks import Task
from tests.helper import (
    BOOK, CLASSES_500, CLASSES_501, CLASSES_SIXTEEN, WIDE, any_values, class_in, classes_in, drawn_tasks, in_parallel,
    is_without_cycle, orders_of, races_of, told)

X = ("read", "x")
AFTER = ("step", "x", 1, "after")
TWICE = Task(BOOK, ("op", "+", AFTER, AFTER))
TWICE_CLASSES = [(), ((1, 2),), ((1, 2), (1, 3)), ((0, 3), (1, 2), (1, 3))]
THREE_STORES = Task(BOOK, in_parallel("X", "X", "X"))
OF_ONE_CLASS = (least_order, orders_in, flippable, lambda task, flips: flipped(task, flips, (1, 2)),
                lambda task, flips: flip_path(task, flips, ()), lambda task, flips: flip_path(task, (), flips))

# No classes of TWICE, whose racing pairs are (0, 3), (1, 2) and (1, 3).
WRONG = [
    [], [(1, 2)], ([1, 2],), ((1, 2), [1, 3]), ((2, 1),), ((1, 2), (3, 1)), ((1, 2), (1, 2)), ((1, 3), (1, 2)),
    ((1, 2), (0, 3), (1, 3)), ((0, 3), (1, 3), (1, 2)), ((True, 2),), ((True, 2), (1, 3)), ((False, 3), (1, 2), (1, 3)),
    ((0, 1),), ((0, 2),), ((2, 3),), ((1, 2), (2, 3)), ((1, 2, 3),), ((1,),), ((),), (1, 2), ("12",), (None,), (True,),
    ((1, None),), ((1, "2"),), ((1, (2,)),), ((1, 4),), ((-1, 2),), ((1, -2),), ((1, 10 ** 39),), None, True, False, 0, 1,
    "", "()", {}, {(1, 2): True}, 1.0, ((1.0, 2),), ((1, 3),), ((0, 3),), ((0, 3), (1, 2)), ((0, 3), (1, 3)),
    (((1, 2),),), ((1, 2), ()), ((1, 2), None),
]


def neighbours(order):
    """All exchanges of neighbouring steps: (both steps, ascending, the order after it)."""
    for at in range(len(order) - 1):
        yield tuple(sorted(order[at:at + 2])), (*order[:at], order[at + 1], order[at], *order[at + 2:])


def changed(flips, pair):
    return tuple(sorted(set(flips) ^ {pair}))


class IsClass(unittest.TestCase):
    def test_of_the_example(self):
        for flips in TWICE_CLASSES:
            self.assertIs(is_class(TWICE, flips), True)
        for value in WRONG:
            self.assertIs(is_class(TWICE, value), False, value)

    def test_any_value(self):
        for task in (Task(BOOK, 7), Task(BOOK, X), TWICE, THREE_STORES, TWICE.with_points(())):
            for value in any_values():
                self.assertIs(is_class(task, value), isinstance(value, tuple) and value == (), value)

    def test_a_cycle_of_pairs_alone(self):
        # 0 ahead of 1, 1 ahead of 2, 2 ahead of 0, and the other way round.
        self.assertIs(is_class(THREE_STORES, ((0, 2),)), False)
        self.assertIs(is_class(THREE_STORES, ((0, 1), (1, 2))), False)
        for flips in ((), ((0, 1),), ((1, 2),), ((0, 1), (0, 2)), ((0, 2), (1, 2)), ((0, 1), (0, 2), (1, 2))):
            self.assertIs(is_class(THREE_STORES, flips), True)

    def test_a_cycle_of_two_pairs_and_preceding_steps(self):
        # (x, y = 1) + (y, x = 2): both reads cannot stand behind both stores.
        task = Task(BOOK, in_parallel("xY", "yX"))
        self.assertEqual(races(task), [(0, 3), (1, 2)])
        self.assertEqual([is_class(task, flips) for flips in ((), ((0, 3),), ((1, 2),), ((0, 3), (1, 2)))],
                         [True, False, True, True])

    def test_all_ascending_tuples_of_racing_pairs(self):
        for task in [*drawn_tasks(31, 200, 6), *drawn_tasks(32, 40, 7)]:
            pairs = races_of(task)
            found = classes_in(task)
            for many in range(len(pairs) + 1 if len(pairs) < 10 else 3):
                for flips in itertools.combinations(pairs, many):
                    self.assertIs(is_class(task, flips), flips in found, (str(task), flips))
                    self.assertIs(is_without_cycle(task, flips), flips in found, (str(task), flips))

    def test_tuples_of_racing_pairs_that_are_not_ascending(self):
        for task in (TWICE, THREE_STORES):
            for many in (2, 3):
                for flips in itertools.product(races(task), repeat=many):
                    expected = flips == tuple(sorted(set(flips))) and flips in classes_in(task)
                    self.assertIs(is_class(task, flips), expected)


class AllClasses(unittest.TestCase):
    def test_of_the_example(self):
        self.assertEqual((list(classes(TWICE)), count_classes(TWICE)), (TWICE_CLASSES, 4))
        for expression in (7, X, AFTER, ("op", "+", X, X)):
            self.assertEqual((list(classes(Task(BOOK, expression))), count_classes(Task(BOOK, expression))), ([()], 1))
        self.assertEqual(list(classes(TWICE.with_points(()))), [()])

    def test_in_order_by_hand(self):
        self.assertEqual(list(classes(THREE_STORES)), [
            (), ((0, 1),), ((1, 2),), ((0, 1), (0, 2)), ((0, 2), (1, 2)), ((0, 1), (0, 2), (1, 2))])
        self.assertEqual(list(classes(Task(BOOK, in_parallel("X", "x", "x")))), [(), ((0, 1),), ((0, 2),), ((0, 1), (0, 2))])

    def test_against_all_orders(self):
        for task in [*drawn_tasks(33, 200, 6), *drawn_tasks(34, 30, 8)]:
            expected = sorted(classes_in(task), key=lambda flips: (len(flips), flips))
            self.assertEqual(list(classes(task)), expected, str(task))
            self.assertEqual(count_classes(task), len(expected))
            for most in range(4):
                self.assertEqual(list(classes(task, most=most)), [flips for flips in expected if len(flips) <= most])

    def test_most(self):
        for most, many in ((0, 1), (1, 2), (2, 3), (3, 4), (4, 4), (10 ** 39, 4), (None, 4), (-1, 0)):
            self.assertEqual(list(classes(TWICE, most=most)), TWICE_CLASSES[:many])

    def test_most_by_name_only(self):
        self.assertRaises(TypeError, classes, TWICE, 1)
        self.assertRaises(TypeError, classes)

    def test_five_hundred_and_one_more(self):
        for expression, many in ((CLASSES_500, 500), (CLASSES_501, 501)):
            task = Task(WIDE, expression)
            expected = sorted(classes_in(task), key=lambda flips: (len(flips), flips))
            self.assertEqual(len(expected), many)
            if many == 500:
                self.assertEqual((list(classes(task)), count_classes(task)), (expected, 500))
                self.assertEqual(list(classes(task, most=1)), [flips for flips in expected if len(flips) < 2])
            else:
                self.assertEqual(told(count_classes, task), ("TooMany", {"limit": 500}))
                for most in (0, 1, None, 10 ** 39):
                    self.assertEqual(told(lambda: list(classes(task, most=most))), ("TooMany", {"limit": 500}))

    def test_the_generator_raises_when_its_first_item_is_asked_for(self):
        for task, expected in ((Task(WIDE, CLASSES_501), ("TooMany", {"limit": 500})),
                               (Task(BOOK, ("and", X, 1)), ("Guarded", {"path": ()}))):
            for most in (None, 0):
                rows = classes(task, most=most)
                self.assertEqual(told(next, rows), expected)

    def test_two_generators_do_not_disturb_each_other(self):
        one, other = classes(TWICE), classes(TWICE)
        next(one), next(one), next(other)
        self.assertEqual((next(one), next(other)), (TWICE_CLASSES[2], TWICE_CLASSES[1]))
        self.assertEqual((list(one), list(other)), (TWICE_CLASSES[3:], TWICE_CLASSES[2:]))

    def test_sixteen_steps(self):
        task = Task(WIDE, CLASSES_SIXTEEN)
        found = list(classes(task))
        self.assertEqual((len(task), len(found), count_classes(task)), (16, 500, 500))
        self.assertEqual(found, sorted(set(found), key=lambda flips: (len(flips), flips)))
        for flips in found:
            self.assertIs(is_class(task, flips), True)
            self.assertEqual(class_of(task, least_order(task, flips)), flips)

    def test_sixteen_steps_that_all_race(self):
        task = Task(BOOK, in_parallel(*["X"] * 16))
        self.assertEqual(told(count_classes, task), ("TooMany", {"limit": 500}))
        self.assertEqual(told(lambda: list(classes(task, most=0))), ("TooMany", {"limit": 500}))
        self.assertEqual(least_order(task, tuple(races(task))), tuple(range(15, -1, -1)))
        self.assertEqual(len(flip_path(task, tuple(races(task)), ())), 121)


class OfOrders(unittest.TestCase):
    def test_of_the_example(self):
        found = [class_of(TWICE, order) for order in orders_of(TWICE)]
        self.assertEqual(found, [TWICE_CLASSES[at] for at in (0, 1, 2, 1, 2, 3)])
        self.assertEqual(class_of(Task(BOOK, 7), ()), ())

    def test_all_orders_of_drawn_tasks(self):
        for task in [*drawn_tasks(35, 150, 6), *drawn_tasks(36, 10, 8)]:
            found = classes_in(task)
            for flips, orders in found.items():
                for order in orders:
                    self.assertEqual(class_of(task, order), flips, (str(task), order))
                self.assertEqual(least_order(task, flips), orders[0], (str(task), flips))
                self.assertEqual(orders_in(task, flips), len(orders), (str(task), flips))

    def test_the_least_order_by_hand(self):
        self.assertEqual([least_order(TWICE, flips) for flips in TWICE_CLASSES],
                         [(0, 1, 2, 3), (0, 2, 1, 3), (0, 2, 3, 1), (2, 3, 0, 1)])
        # What does not race with the pair is as far ahead as it can be.
        task = Task(BOOK, in_parallel("X", "y", "x", "y"))
        self.assertEqual(least_order(task, ((0, 2),)), (1, 2, 0, 3))

    def test_orders_in_by_hand(self):
        self.assertEqual([orders_in(TWICE, flips) for flips in TWICE_CLASSES], [1, 2, 2, 1])
        self.assertEqual(orders_in(Task(BOOK, in_parallel(*["x"] * 12)), ()), 479001600)
        self.assertEqual(orders_in(Task(BOOK, in_parallel("X" * 6, "y" * 6)), ()), 924)
        self.assertEqual(orders_in(Task(BOOK, in_parallel(*["X"] * 12)), ()), 1)
        self.assertEqual(orders_in(Task(BOOK, 7), ()), 1)

    def test_no_order(self):
        for value in [*any_values(), (0, 1, 2), (1, 0, 2, 3), [0, 1, 2, 3], (0, True, 2, 3), (0, 1, 2, 3, 4)]:
            self.assertEqual(told(class_of, TWICE, value), ("NoOrder", {"order": value}))
        self.assertIs(told(class_of, TWICE, (0, True, 2, 3))[1]["order"][1], True)


class Flips(unittest.TestCase):
    def test_flippable_by_hand(self):
        self.assertEqual([flippable(TWICE, flips) for flips in TWICE_CLASSES],
                         [[(1, 2)], [(1, 2), (1, 3)], [(0, 3), (1, 3)], [(0, 3)]])
        self.assertEqual(flippable(THREE_STORES, ()), [(0, 1), (1, 2)])
        self.assertEqual(flippable(THREE_STORES, ((0, 1), (0, 2))), [(0, 2), (1, 2)])
        self.assertEqual(flippable(Task(BOOK, 7), ()), [])

    def test_flipped_by_hand(self):
        self.assertEqual(flipped(TWICE, (), (1, 2)), ((1, 2),))
        self.assertEqual(flipped(TWICE, ((1, 2),), (1, 2)), ())
        self.assertEqual(flipped(TWICE, ((1, 2),), (1, 3)), ((1, 2), (1, 3)))
        self.assertEqual(flipped(TWICE, ((1, 2), (1, 3)), (0, 3)), ((0, 3), (1, 2), (1, 3)))

    def test_all_classes_and_pairs_of_drawn_tasks(self):
        for task in [*drawn_tasks(37, 150, 6), *drawn_tasks(38, 20, 7)]:
            found = classes_in(task)
            for flips in found:
                expected = [pair for pair in races_of(task) if changed(flips, pair) in found]
                self.assertEqual(flippable(task, flips), expected, (str(task), flips))
                for pair in races_of(task):
                    if pair in expected:
                        self.assertEqual(flipped(task, flips, pair), changed(flips, pair))
                    else:
                        self.assertEqual(told(flipped, task, flips, pair), ("NoPair", {"pair": pair}))

    def test_sixteen_steps(self):
        task = Task(WIDE, CLASSES_SIXTEEN)
        found = dict.fromkeys(classes(task), True)
        for flips in list(found)[::5]:
            self.assertEqual(flippable(task, flips), [pair for pair in races(task) if changed(flips, pair) in found])

    def test_no_pair(self):
        for value in [*any_values(), (0, 3), (1, 3), (2, 1), (0, 1), (0, 2), (2, 3), [1, 2], (True, 2), (1, 2, 3), (1,),
                      ((1, 2),), "12", (1, None), (1, (2,)), (1, 10 ** 39), (-3, 2), (1, -2), (3, 3), (1, 1)]:
            self.assertEqual(told(flipped, TWICE, (), value), ("NoPair", {"pair": value}))
        self.assertIs(told(flipped, TWICE, (), (True, 2))[1]["pair"][0], True)
        self.assertEqual(told(flipped, Task(BOOK, 7), (), (0, 1)), ("NoPair", {"pair": (0, 1)}))


class Paths(unittest.TestCase):
    def check_path(self, task, one, other, found):
        path = flip_path(task, one, other)
        self.assertEqual((path[0], path[-1], len(path) - 1), (one, other, len(set(one) ^ set(other))))
        for before, after in zip(path, path[1:]):
            self.assertEqual(len(set(before) ^ set(after)), 1)
        for flips in path:
            self.assertIn(flips, found)

    def test_by_hand(self):
        self.assertEqual(flip_path(TWICE, (), TWICE_CLASSES[3]), TWICE_CLASSES)
        self.assertEqual(flip_path(TWICE, TWICE_CLASSES[3], TWICE_CLASSES[1]), TWICE_CLASSES[3:0:-1])
        self.assertEqual(flip_path(Task(BOOK, 7), (), ()), [()])

    def test_from_a_class_to_itself(self):
        for flips in TWICE_CLASSES:
            self.assertEqual(flip_path(TWICE, flips, flips), [flips])

    def test_all_pairs_of_classes_of_drawn_tasks(self):
        for task in [*drawn_tasks(39, 150, 6), *drawn_tasks(40, 8, 8)]:
            found = classes_in(task)
            for one, other in itertools.product(list(found)[:40], repeat=2):
                self.check_path(task, one, other, found)

    def test_five_hundred_classes_and_sixteen_steps(self):
        for expression in (CLASSES_500, CLASSES_SIXTEEN):
            task = Task(WIDE, expression)
            found = list(classes(task))
            for at in range(0, 500, 3):
                self.check_path(task, found[at], found[-at - 1], dict.fromkeys(found, True))


class NoClass(unittest.TestCase):
    def test_wrong_ones(self):
        for call in OF_ONE_CLASS:
            for value in WRONG:
                self.assertEqual(told(call, TWICE, value), ("NoClass", {"flips": value}), value)

    def test_any_value(self):
        for call in OF_ONE_CLASS:
            for value in any_values():
                if value != ():
                    self.assertEqual(told(call, TWICE, value), ("NoClass", {"flips": value}), value)

    def test_which_error_comes_first(self):
        for value in WRONG:
            self.assertEqual(told(flipped, TWICE, value, (0, 3)), ("NoClass", {"flips": value}))
            self.assertEqual(told(flipped, TWICE, value, None), ("NoClass", {"flips": value}))
            self.assertEqual(told(flip_path, TWICE, value, None), ("NoClass", {"flips": value}))
            self.assertEqual(told(flip_path, TWICE, ((2, 1),), value), ("NoClass", {"flips": ((2, 1),)}))
            self.assertEqual(told(flip_path, TWICE, value, value), ("NoClass", {"flips": value}))

    def test_no_list_is_kept_and_true_stays_true(self):
        for call in OF_ONE_CLASS:
            value = [[1, 2]]
            try:
                call(TWICE, value)
            except LookupError as error:
                value[0].append(3)
                self.assertEqual(error.flips, [[1, 2]])
            self.assertIs(told(call, TWICE, ((True, 2),))[1]["flips"][0][0], True)
        pair = [1, [2]]
        try:
            flipped(TWICE, (), pair)
        except LookupError as error:
            pair[1].append(3)
            self.assertEqual(error.pair, [1, [2]])

    def test_tasks_with_more_than_five_hundred_classes_are_no_error_here(self):
        task = Task(WIDE, CLASSES_501)
        self.assertIs(is_class(task, ()), True)
        self.assertEqual(class_of(task, tuple(range(12))), ())
        self.assertEqual(least_order(task, ()), tuple(range(12)))
        self.assertEqual(flip_path(task, (), ()), [()])
        self.assertIsNone(told(orders_in, task, ()))
        self.assertIsNone(told(flipped, task, (), flippable(task, ())[0]))


class General(unittest.TestCase):
    def test_arguments_by_name(self):
        flips = ((1, 2),)
        self.assertIs(is_class(value=flips, task=TWICE), True)
        self.assertEqual(list(classes(most=1, task=TWICE)), TWICE_CLASSES[:2])
        self.assertEqual(count_classes(task=TWICE), 4)
        self.assertEqual(class_of(order=(0, 2, 1, 3), task=TWICE), flips)
        self.assertEqual(least_order(flips=flips, task=TWICE), (0, 2, 1, 3))
        self.assertEqual(orders_in(flips=flips, task=TWICE), 2)
        self.assertEqual(flippable(flips=flips, task=TWICE), [(1, 2), (1, 3)])
        self.assertEqual(flipped(pair=(1, 3), flips=flips, task=TWICE), ((1, 2), (1, 3)))
        self.assertEqual(flip_path(other=flips, one=(), task=TWICE), [(), flips])

    def test_the_kinds_of_what_is_returned(self):
        self.assertEqual([type(flips) for flips in classes(TWICE)], [tuple] * 4)
        found = (class_of(TWICE, (0, 1, 2, 3)), least_order(TWICE, ()), orders_in(TWICE, ()), flippable(TWICE, ()),
                 flipped(TWICE, (), (1, 2)), flip_path(TWICE, (), ()), count_classes(TWICE))
        self.assertEqual([type(one) for one in found], [tuple, tuple, int, list, tuple, list, int])

    def test_lists_are_new(self):
        flippable(TWICE, ()).append(1)
        flip_path(TWICE, (), TWICE_CLASSES[3]).clear()
        rows = list(classes(TWICE))
        rows.pop()
        self.assertEqual(flippable(TWICE, ()), [(1, 2)])
        self.assertEqual(flip_path(TWICE, (), TWICE_CLASSES[3]), TWICE_CLASSES)
        self.assertEqual(list(classes(TWICE)), TWICE_CLASSES)

    def test_what_was_returned_stays_when_another_task_is_asked(self):
        kept = flippable(TWICE, ()), flip_path(TWICE, (), ((1, 2),)), list(classes(TWICE))
        copy = [list(one) for one in kept]
        flippable(THREE_STORES, ()), flip_path(THREE_STORES, (), ((0, 1),)), list(classes(THREE_STORES))
        self.assertEqual(list(kept), copy)

    def test_the_task_and_the_values_stay(self):
        task, value = Task(BOOK, TWICE.expression), [[1, 2], ((1, [3]),)]
        for call in OF_ONE_CLASS:
            told(call, task, value), told(call, task, ((1, 2),))
        told(class_of, task, value), told(flipped, task, (), value), is_class(task, value), list(classes(task))
        self.assertEqual((value, task), ([[1, 2], ((1, [3]),)], TWICE))

    def test_the_examples_of_the_document(self):
        book = Book(Function("f", 1, reads=("x",), stores=("y",)), Function("g", 2))
        twice = Task(book, ("op", "+", AFTER, AFTER))
        self.assertEqual([list(classes(twice)), flippable(twice, ()), orders_in(twice, ((1, 2),))],
                         [[(), ((1, 2),), ((1, 2), (1, 3)), ((0, 3), (1, 2), (1, 3))], [(1, 2)], 2])


class Guarantees(unittest.TestCase):
    """[3], of orders, classes and flips."""

    def test_exchanges_of_neighbours_that_do_not_race_lead_through_just_one_class(self):
        for task in [*drawn_tasks(41, 150, 6), *drawn_tasks(42, 10, 8)]:
            pairs = races_of(task)
            orders = orders_of(task)
            reached = {}
            for start in orders:
                rows = [start] if start not in reached else []
                for order in rows:
                    reached[order] = start
                    rows += [other for pair, other in neighbours(order)
                             if pair not in pairs and other in orders and other not in rows]
            for one in orders[:60]:
                for other in orders:
                    same = class_of(task, one) == class_of(task, other)
                    self.assertIs(reached[one] == reached[other], same, (str(task), one, other))

    def test_all_orders_of_a_class_have_one_result(self):
        for task in [*drawn_tasks(43, 150, 6), *drawn_tasks(44, 10, 8)]:
            for flips, orders in classes_in(task).items():
                self.assertEqual(len({result(task, order) for order in orders}), 1, (str(task), flips))

    def test_no_path_is_shorter(self):
        for task in drawn_tasks(45, 60, 6):
            found = classes_in(task)
            for one in list(found)[:12]:
                far, rows = {one: 0}, [one]
                for flips in rows:
                    for pair in flippable(task, flips):
                        if changed(flips, pair) not in far:
                            far[changed(flips, pair)] = far[flips] + 1
                            rows.append(changed(flips, pair))
                self.assertEqual(far, {other: len(set(one) ^ set(other)) for other in found})
                for other in list(found)[:12]:
                    self.assertEqual(len(flip_path(task, one, other)) - 1, far[other])

    def test_the_left_first_order_has_the_class_without_pairs(self):
        for task in drawn_tasks(46, 60, 10):
            self.assertEqual(class_of(task, tuple(range(len(task)))), ())
            self.assertEqual(class_in(races_of(task), tuple(range(len(task)))), ())


if __name__ == "__main__":
    unittest.main()
