"""Promise [4]: names, functions, books; and [2] for them."""

import unittest

from ordersopen.functions import Book, Function, is_name
from tests.helper import any_values, told


def functions(letters):
    return [Function(letter) for letter in letters]


class Names(unittest.TestCase):
    def test_one_to_eight_letters(self):
        for value in ("a", "z", "x", "ab", "zzzzzzzz", "abcdefgh", "ijklmnop", "qrstuvwx", "yz"):
            self.assertIs(is_name(value), True, value)

    def test_other_strings(self):
        for value in ("", "aaaaaaaaa", "A", "Z", "aB", "x1", "1", "x_", "_", "a b", " a", "a ", "a\n", "\n", "x.y",
                      "`", "{", "a-b", "\u00e9", "\u00df", "\uff41", "a\u0301"):
            self.assertIs(is_name(value), False, value)

    def test_other_values(self):
        for value in any_values():
            if not isinstance(value, str):
                self.assertIs(is_name(value), False)
        for value in (b"a", 1.5, {"a": 1}, {"a"}, ["a"], ("a",), Function("f"), Book()):
            self.assertIs(is_name(value), False)

    def test_by_name(self):
        self.assertIs(is_name(value="x"), True)


class Functions(unittest.TestCase):
    def test_attributes(self):
        made = Function("f", 2, reads=("a", "b"), stores=("a", "c", "d", "e"))
        self.assertEqual((made.name, made.arguments, made.reads, made.stores),
                         ("f", 2, ("a", "b"), ("a", "c", "d", "e")))
        self.assertIn("name", vars(made))
        self.assertIn("arguments", vars(made))
        self.assertIn("reads", vars(made))
        self.assertIn("stores", vars(made))

    def test_defaults(self):
        made = Function("f")
        self.assertEqual((made.name, made.arguments, made.reads, made.stores), ("f", 0, (), ()))

    def test_arguments_by_name(self):
        made = Function(stores=("x",), reads=("y",), arguments=3, name="g")
        self.assertEqual((made.name, made.arguments, made.reads, made.stores), ("g", 3, ("y",), ("x",)))

    def test_reads_and_stores_by_name_only(self):
        self.assertRaises(TypeError, Function, "f", 1, ("x",))
        self.assertRaises(TypeError, Function, "f", 1, ("x",), ("y",))
        self.assertRaises(TypeError, Function)

    def test_numbers_of_arguments(self):
        for number in (0, 1, 2, 3):
            self.assertEqual(Function("f", number).arguments, number)
        for number in (-1, 4, 10 ** 39, True, False, None, "1", "", (1,), [1], [], 1.0):
            self.assertEqual(told(Function, "f", number), ("BadFunction", {"part": "arguments"}))

    def test_wrong_names(self):
        for value in any_values():
            if is_name(value):
                self.assertEqual(Function(value).name, value)
            else:
                self.assertEqual(told(Function, value), ("NoName", {"name": value}))

    def test_places(self):
        good = ((), ("x",), ("x", "y"), ("a", "ab", "b"), ("a", "b", "c", "d"), ("aaaaaaaa", "b"))
        wrong = (["x"], [], "x", "", "xy", None, True, False, 0, 1, {"x": 1}, {"x"},
                 ("y", "x"), ("x", "x"), ("a", "b", "b"), ("a", "c", "b"), ("b", "a", "c"),
                 ("a", "b", "c", "d", "e"), ("x", ""), ("",), ("X",), ("x", "y1"), ("abcdefghi",), ("x\n",),
                 (None,), (1,), (True,), (("x",),), (["x"],), ("x", None), (1, "x"), ("x", ["y"]), ((), "x"))
        for part in ("reads", "stores"):
            for places in good:
                self.assertEqual(getattr(Function("f", **{part: places}), part), places)
            for places in wrong:
                self.assertEqual(told(Function, "f", **{part: places}), ("BadFunction", {"part": part}), places)

    def test_places_of_any_value(self):
        good = [(), ("f",), ("f", "g"), ("read",), ("read", "x")]
        for value in any_values():
            for part in ("reads", "stores"):
                expected = None if value in good else ("BadFunction", {"part": part})
                self.assertEqual(told(Function, "f", **{part: value}), expected)

    def test_the_same_place_may_be_read_and_stored(self):
        made = Function("x", reads=("x",), stores=("x",))
        self.assertEqual((made.name, made.reads, made.stores), ("x", ("x",), ("x",)))

    def test_first_wrong_parameter_is_told(self):
        self.assertEqual(told(Function, "F", 4, reads=["x"], stores=["x"]), ("NoName", {"name": "F"}))
        self.assertEqual(told(Function, "F", 0, reads=[]), ("NoName", {"name": "F"}))
        self.assertEqual(told(Function, "F", 0, stores=[]), ("NoName", {"name": "F"}))
        self.assertEqual(told(Function, "f", 4, reads=["x"], stores=["x"]), ("BadFunction", {"part": "arguments"}))
        self.assertEqual(told(Function, "f", 4, stores=["x"]), ("BadFunction", {"part": "arguments"}))
        self.assertEqual(told(Function, "f", 3, reads=["x"], stores=["x"]), ("BadFunction", {"part": "reads"}))
        self.assertEqual(told(Function, "f", 3, stores=["x"]), ("BadFunction", {"part": "stores"}))

    def test_an_error_keeps_no_list(self):
        value = ["f", ["g"]]
        try:
            Function(value)
        except ValueError as error:
            value[1].append("h")
            value.append("i")
            self.assertEqual(error.name, ["f", ["g"]])

    def test_equality(self):
        one = Function("f", 2, reads=("x",), stores=("y",))
        self.assertTrue(one == Function("f", 2, reads=("x",), stores=("y",)))
        self.assertFalse(one != Function("f", 2, reads=("x",), stores=("y",)))
        for other in (Function("g", 2, reads=("x",), stores=("y",)), Function("f", 1, reads=("x",), stores=("y",)),
                      Function("f", 2, reads=(), stores=("y",)), Function("f", 2, reads=("x",), stores=("x", "y")),
                      Function("f", 2, reads=("y",), stores=("x",)), Function("f", 2), Function("f")):
            self.assertFalse(one == other)
            self.assertTrue(one != other)

    def test_a_function_equals_nothing_else(self):
        one = Function("f")
        for other in [*any_values(), Book(one), "Function(f, 0)", ("f", 0, (), ()), object()]:
            self.assertIs(one == other, False)
            self.assertIs(one != other, True)

        class Everything:
            def __eq__(self, other):
                return True

        self.assertIs(one == Everything(), False)

    def test_repr(self):
        self.assertEqual(repr(Function("f", 2)), "Function(f, 2)")
        self.assertEqual(repr(Function("abcdefgh", reads=("x",), stores=("y",))), "Function(abcdefgh, 0)")


class Books(unittest.TestCase):
    def test_none_to_eight_functions(self):
        for many in range(7):
            book = Book(*functions("abcdefgh"[:many]))
            self.assertEqual(len(book), many)
            self.assertEqual(bool(book), many > 0)
            self.assertEqual(book.names, tuple("abcdefgh"[:many]))
        for many in (7, 8):
            self.assertEqual(told(Book, *functions("abcdefgh"[:many])), ("TooMany", {"limit": 6}))

    def test_most(self):
        self.assertEqual(Book.MOST, 6)
        self.assertEqual(Book().MOST, 6)
        self.assertIn("MOST", vars(Book))

    def test_arguments_that_are_no_functions(self):
        one = Function("f")
        for value in [*any_values(), Book(), Book(one), Function, object()]:
            self.assertEqual(told(Book, value), ("BadBook", {"at": 0}))
            self.assertEqual(told(Book, one, value), ("BadBook", {"at": 1}))
            self.assertEqual(told(Book, value, one, value), ("BadBook", {"at": 0}))

    def test_a_name_twice(self):
        a, b = Function("a"), Function("b")
        self.assertEqual(told(Book, a, a), ("BadBook", {"at": 1}))
        self.assertEqual(told(Book, a, Function("a", 3, reads=("x",))), ("BadBook", {"at": 1}))
        self.assertEqual(told(Book, a, b, a, b), ("BadBook", {"at": 2}))
        self.assertEqual(told(Book, b, a, b, None), ("BadBook", {"at": 2}))
        self.assertEqual(told(Book, b, None, b), ("BadBook", {"at": 1}))

    def test_wrong_argument_is_told_ahead_of_too_many(self):
        eight = functions("abcdefgh")
        self.assertEqual(told(Book, *eight[:7], 1), ("BadBook", {"at": 7}))
        self.assertEqual(told(Book, *eight[:6], 1), ("BadBook", {"at": 6}))
        self.assertEqual(told(Book, *eight, eight[0]), ("BadBook", {"at": 8}))
        self.assertEqual(told(Book, *eight[:6], eight[5]), ("BadBook", {"at": 6}))

    def test_functions_by_name(self):
        f, g = Function("f", 1, reads=("x",)), Function("g", 2, stores=("y",))
        book = Book(g, f)
        self.assertEqual(book["f"], f)
        self.assertEqual(book["g"], g)
        self.assertEqual(book["g"].stores, ("y",))
        self.assertIsInstance(book["f"], Function)

    def test_any_value_as_a_key(self):
        book = Book(Function("f"), Function("ffffffff"))
        for value in [*any_values(), Function("f"), book, {}, {"f"}, b"f", 1.5]:
            if value in ("f", "ffffffff"):
                self.assertEqual(book[value].name, value)
                self.assertIs(value in book, True)
            else:
                self.assertEqual(told(book.__getitem__, value), ("NoFunction", {"name": value}))
                self.assertIs(value in book, False)

    def test_the_empty_book(self):
        self.assertEqual(told(Book().__getitem__, "f"), ("NoFunction", {"name": "f"}))
        self.assertIs("f" in Book(), False)
        self.assertEqual(Book().names, ())

    def test_no_function_is_a_key_error(self):
        self.assertRaises(KeyError, lambda: Book()[["f"]])

    def test_a_book_is_not_iterated_over(self):
        self.assertRaises(TypeError, iter, Book(Function("f")))

    def test_names(self):
        book = Book(*functions("cabed"))
        self.assertEqual(book.names, ("a", "b", "c", "d", "e"))
        self.assertEqual(Book(Function("b"), Function("ab"), Function("a")).names, ("a", "ab", "b"))
        self.assertIsInstance(vars(Book)["names"], property)

    def test_equality(self):
        f, g = Function("f", 1), Function("g", 2)
        self.assertTrue(Book(f, g) == Book(g, f))
        self.assertFalse(Book(f, g) != Book(g, f))
        self.assertTrue(Book() == Book())
        for other in (Book(), Book(f), Book(g), Book(f, g, Function("h")), Book(f, Function("g", 1)),
                      Book(f, Function("g", 2, reads=("x",)))):
            self.assertFalse(Book(g, f) == other)
            self.assertTrue(Book(g, f) != other)

    def test_a_book_equals_nothing_else(self):
        f = Function("f")
        for other in [*any_values(), f, (f,), [f], {"f": f}, "Book(f)", object()]:
            self.assertIs(Book(f) == other, False)
            self.assertIs(Book() == other, False)

        class Everything:
            def __eq__(self, other):
                return True

        self.assertIs(Book() == Everything(), False)

    def test_repr(self):
        self.assertEqual(repr(Book()), "Book()")
        self.assertEqual(repr(Book(Function("g", 3))), "Book(g)")
        self.assertEqual(repr(Book(*functions("hgf"))), "Book(f, g, h)")

    def test_a_function_that_is_changed_does_not_show(self):
        f = Function("f", 1)
        book = Book(f)
        f.name = "g"
        self.assertEqual(book.names, ("f",))
        book["f"].arguments = 2
        self.assertEqual(book["f"].arguments, 1)

    def test_functions_stay_as_they_were(self):
        f = Function("f", 1, reads=("x",), stores=("y",))
        book = Book(f, Function("a"))
        self.assertRaises(KeyError, book.__getitem__, "b")
        self.assertEqual(f, Function("f", 1, reads=("x",), stores=("y",)))
        self.assertEqual(repr(book), "Book(a, f)")


if __name__ == "__main__":
    unittest.main()
