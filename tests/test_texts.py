"""Texts of tasks [25], read, and texts of terms [26]; equality of tasks that were read."""

import random
import string
import unittest

from ordersopen.functions import Book, Function
from ordersopen.results import all_results
from ordersopen.tasks import Task
from ordersopen.texts import read_task, show_term
from tests.helper import BOOK, WIDE, any_values, drawn_tasks, told

# The grammar of [6] and [7], in which each letter of a text and each bracket stands by itself. A list is a choice of
# rows; a row has strings, taken letter by letter, and names of other choices as tuples.
E, NAME, MORE, TAIL = ("e",), ("name", 8), ("more", 7), ("tail",)


def choice_of(book, symbol):
    """The rows that a symbol stands for."""
    kind = symbol[0]
    if kind in ("name", "more"):
        rows = [[letter, ("more", symbol[1] - 1)] for letter in string.ascii_lowercase] if symbol[1] else []
        return rows + ([[]] if kind == "more" else [])
    if kind == "digits":
        return [[]] + ([[digit, ("digits", symbol[1] - 1)] for digit in string.digits] if symbol[1] else [])
    if kind == "tail":
        signs = [[f" {sign}{point} ", E] for sign in "+-*<" for point in ("", ";")]
        return signs + [[", ", E], [" && ", E], [" || ", E], [" ? ", E, " : ", E]]
    rows = [["0"], *[[digit, ("digits", 5)] for digit in "123456789"], [NAME], ["++", NAME], ["--", NAME], [NAME, "++"],
            [NAME, "--"], ["(", NAME, " = ", E, ")"], ["(", E, TAIL, ")"]]
    for name in book.names:
        many = book[name].arguments
        for separator in (", ", "; "):
            rows.append([f"{name}(", *[part for _ in range(many) for part in (separator, E)][1:], ")"])
    return rows


def opened(book, rows):
    """All rows that come of these by choices until each begins with a letter, or is empty."""
    waiting, found = [tuple(row) for row in rows], set()
    while waiting:
        row = waiting.pop()
        if row and isinstance(row[0], tuple):
            waiting.extend((*choice, *row[1:]) for choice in choice_of(book, row[0]))
        elif sum(part.count(")") for part in row if isinstance(part, str)) <= 30:
            found.add(row)
    return found


def rows_behind(book, text, seen):
    """What may follow a text; `seen` holds what may follow the texts that came before."""
    if text not in seen:
        rows = rows_behind(book, text[:-1], seen) if text else ()
        seen[text] = opened(book, [(row[0][1:], *row[1:]) if len(row[0]) > 1 else row[1:]
                                   for row in rows if row and row[0][0] == text[-1]]) if text else opened(book, [(E,)])
    return seen[text]


SEEN = {}


def place_in(book, text):
    """[25]: the index to tell, by all that may follow each letter; None if this is the text of a task."""
    seen = SEEN.setdefault(str([(name, book[name].arguments) for name in book.names]), {})
    for at in range(len(text)):
        if not rows_behind(book, text[:at + 1], seen):
            return at
    return None if () in rows_behind(book, text, seen) else len(text)


# Each form of [6], and some of them within each other.
TEXTS = [
    "0", "7", "999999", "x", "abcdefgh", "(x = 7)", "++x", "--x", "x++", "x--", "(x + y)", "(x - y)", "(x * y)", "(x < y)",
    "(x +; y)", "(x -; y)", "(x *; y)", "(x <; y)", "k()", "f(x)", "g(x, y)", "g(x; y)", "h(x, y, 1)", "h(x; y; 1)",
    "(x, y)", "(x && y)", "(x || y)", "(x ? y : 1)", "((x = 1) + f(x++))", "h(g(1; 2), (x, y), (x +; y))",
    "((x ? y : 1) && (x || --y))", "(f = f(f))", "(k = k())", "((x + y) ? (y = x) : ((x, y), k()))", "g(k(); k())",
    "(x + ++x)", "(x - --x)", "(x++ + ++x)", "(x-- - --x)", "(x = (y = 0))", "f(f(f(f(x))))", "(10 * 100000)",
]


class ReadTask(unittest.TestCase):
    def check(self, text, book=BOOK):
        place = place_in(book, text)
        expected = None if place is None else ("NoText", {"place": place})
        self.assertEqual(told(read_task, book, text), expected, repr(text))
        if place is None:
            self.assertEqual(str(read_task(book, text)), text)
        return place

    def test_each_form(self):
        for text, expression, points in [
            ("7", 7, ()), ("0", 0, ()), ("999999", 999999, ()), ("x", ("read", "x"), ()),
            ("(x = 7)", ("store", "x", 7), ()), ("++x", ("step", "x", 1, "before"), ()),
            ("--x", ("step", "x", -1, "before"), ()), ("x++", ("step", "x", 1, "after"), ()),
            ("x--", ("step", "x", -1, "after"), ()), ("(x + 1)", ("op", "+", ("read", "x"), 1), ()),
            ("(1 - 2)", ("op", "-", 1, 2), ()), ("(1 * 2)", ("op", "*", 1, 2), ()), ("(1 <; 2)", ("op", "<", 1, 2), ((),)),
            ("k()", ("call", "k", ()), ()), ("f(1)", ("call", "f", (1,)), ()), ("g(1, 2)", ("call", "g", (1, 2)), ()),
            ("g(1; 2)", ("call", "g", (1, 2)), ((),)), ("h(1; 2; 3)", ("call", "h", (1, 2, 3)), ((),)),
            ("(1, 2)", ("then", 1, 2), ()), ("(1 && 2)", ("and", 1, 2), ()), ("(1 || 2)", ("or", 1, 2), ()),
            ("(1 ? 2 : 3)", ("choose", 1, 2, 3), ()),
            ("((1 +; 2) + g(3; (4 *; 5)))",
             ("op", "+", ("op", "+", 1, 2), ("call", "g", (3, ("op", "*", 4, 5)))), ((0,), (1,), (1, 1))),
        ]:
            task = read_task(BOOK, text)
            self.assertEqual((task.expression, task.points, task.book), (expression, points, BOOK), text)
            self.assertEqual((str(task), task), (text, Task(BOOK, expression, points=points)))

    def test_texts_of_all_forms_and_of_drawn_tasks(self):
        for text in TEXTS:
            self.assertIsNone(self.check(text), text)
        for task in drawn_tasks(81, 300, 14, guards=True):
            self.assertEqual(read_task(WIDE, str(task)), task)
            every = task.with_points(*task.open_nodes())
            self.assertEqual(read_task(WIDE, str(every)), every)
            self.assertNotEqual(read_task(WIDE, str(every)) == task, task.open_nodes() != [])

    def test_forms_nested_in_each_other(self):
        for outer in TEXTS:
            for inner in TEXTS:
                if "x" in outer and inner in ("k()", "(x +; y)", "g(x; y)", "++x", "7", "(x = 7)", "(x ? y : 1)"):
                    self.check(outer.replace("x", inner, 1))

    def test_one_character_left_out_doubled_replaced_exchanged_or_cut_off(self):
        letters = "x(k0+;,&|?:= )-*<9\n"
        for text in TEXTS:
            for at, letter in enumerate(text):
                self.check(text[:at] + text[at + 1:])
                self.check(text[:at] + letter + text[at:])
                self.check(text[:at] + text[at + 1:at + 2] + letter + text[at + 2:])
                self.check(text[:at])
                for other in letters:
                    self.check(text[:at] + other + text[at + 1:])
            for other in letters:
                self.check(text + other)

    def test_drawn_texts_with_changes(self):
        draw = random.Random(82)
        for task in drawn_tasks(83, 60, 8, guards=True):
            text = str(task)
            for _ in range(20):
                at = draw.randrange(len(text))
                self.check(text[:at] + draw.choice("xyfgh01 +-;,()=&|?:") + text[at + draw.randrange(2):], WIDE)

    def test_signs_and_names_that_begin_alike(self):
        for text, place in [
            ("x", None), ("x+", 2), ("x++", None), ("x+++", 3), ("x+-", 2), ("x-", 2), ("x--", None), ("+", 1), ("++", 2),
            ("++x", None), ("+x", 1), ("+-x", 1), ("++x++", 3), ("++7", 2), ("7++", 1), ("(x +", 4), ("(x +;", 5),
            ("(x +; ", 6), ("(x +;; y)", 5), ("(x ++ y)", 4), ("(x + +y)", 6), ("(x++ + y)", None), ("(x+ + y)", 3),
            ("(x +y)", 4), ("(x+ y)", 3), ("(x  + y)", 3), ("( x + y)", 1), ("(x + y )", 6), ("(x +  y)", 5),
            (" x", 0), ("x ", 1), ("(x + y) ", 7), ("(x ; y)", 3), ("(x / y)", 3), ("(x <; y)", None), ("(x << y)", 4),
            ("(x > y)", 3), ("-1", 1), ("--1", 2), ("X", 0), ("_", 0), ("", 0), ("()", 1), ("(x)", 2), ("((x) + y)", 3),
            ("(x", 2), ("(x ", 3), ("(7 = 1)", 3), ("(x++ = 1)", 5), ("(++x = 1)", 5), ("(f(x) = 1)", 6), ("(x == 1)", 4),
            ("((x = 1) = 2)", 9), ("(x = 1", 6), ("(x = 1) + 2", 7), ("x = 1", 1), ("(x=1)", 2), ("(x = )", 5),
        ]:
            self.assertEqual(self.check(text), place, text)

    def test_guards_and_then(self):
        for text, place in [
            ("(x & y)", 4), ("(x &", 4), ("(x &&", 5), ("(x &| y)", 4), ("(x &&& y)", 5), ("(x && y", 7), ("(x && y && 1)", 7),
            ("(x | y)", 4), ("(x ||| y)", 5), ("(x || y)", None), ("(x ? y)", 6), ("(x ? y :)", 8), ("(x ? y: 1)", 6),
            ("(x ? y ; 1)", 7), ("(x ?; y : 1)", 4), ("(x ? y : 1 : 2)", 10), ("(x : y)", 3), ("(x ?", 4),
            ("(x, y)", None), ("(x ,y)", 3), ("(x,y)", 3), ("(x, y, 1)", 5), ("(x; y)", 2), ("(x,; y)", 3), ("(x &&; y)", 5),
        ]:
            self.assertEqual(self.check(text), place, text)

    def test_names_and_numbers(self):
        for text, place in [
            ("abcdefgh", None), ("abcdefghi", 8), ("(abcdefghi = 1)", 9), ("++abcdefghi", 10), ("abcdefgh++", None),
            ("123456", None), ("1234567", 6), ("(1234567 + 1)", 7), ("0", None), ("00", 1), ("01", 1), ("(1 + 01)", 6),
            ("10", None), ("1x", 1), ("x1", 1), ("f1", 1), ("1(", 1), ("7.", 1), ("aB", 1),
        ]:
            self.assertEqual(self.check(text), place, text)

    def test_calls(self):
        for text, place in [
            ("f", None), ("f(", 2), ("f()", 2), ("f(1, 2)", 3), ("f(1; 2)", 3), ("f(1)", None), ("k(", 2), ("k()", None),
            ("k(1)", 2), ("k( )", 2), ("k", None), ("g(1)", 3), ("g(1,", 4), ("g(1,2)", 4), ("g(1 , 2)", 3), ("g(1, 2, 3)", 6),
            ("g(1; 2; 3)", 6), ("h(1, 2; 3)", 6), ("h(1; 2, 3)", 6), ("h(1, 2)", 6), ("h(1; 2; 3)", None), ("z(1)", 1),
            ("ff(1)", 2), ("f (1)", 1), ("fk()", 2), ("f++", None), ("f++(1)", 3), ("++f(1)", 3), ("++f", None), ("(f = 1)", None),
            ("(f(1) + f)", None), ("f(f)", None), ("f(f(f(f)))", None), ("f(f(f(f))", 9), ("f((x, y))", None), ("f(x, y)", 3),
            ("f(1))", 4), ("f(1)f(1)", 4), ("f(1)++", 4), ("g(1;2)", 4), ("g(1;; 2)", 4), ("g(;1, 2)", 2),
        ]:
            self.assertEqual(self.check(text), place, text)

    def test_other_books(self):
        empty, other = Book(), Book(Function("x", 2), Function("abcdefgh"), Function("xy", 1))
        for text, place in [("f(1)", 1), ("k()", 1), ("x", None), ("(x + y)", None)]:
            self.assertEqual(self.check(text, empty), place)
        for text, place in [("x(1, x)", None), ("x(xy(x++); xy(1))", None), ("abcdefgh()", None), ("abcdefg()", 7),
                            ("abcdefghi()", 8), ("xy(1, 2)", 4), ("x(1)", 3), ("xyz(1)", 3), ("(x = x(x, x))", None)]:
            self.assertEqual(self.check(text, other), place)

    def test_what_is_no_string(self):
        for value in any_values():
            if isinstance(value, str):
                self.check(value)
            else:
                self.assertEqual(told(read_task, BOOK, value), ("NoText", {"place": -1}))

    def test_strings_of_any_characters(self):
        for text in ["~" * 2000, "(" * 2000, "f(" * 1000, "x" * 2000, "1" * 2000, "+" * 2000, " " * 2000, "\n", "x\n", "(x +\n y)",
                     "(x, " * 500, "((" + "x" * 1998]:
            self.check(text)

    def test_thirty_and_thirty_one_brackets(self):
        for begin, end, place in [("(x, ", ")", 120), ("(", ", x)", 30), ("f(", ")", 61), ("(x = ", ")", 150),
                                  ("g(1; ", ")", 151), ("(1 ? 2 : ", ")", 270)]:
            self.assertEqual(told(read_task, BOOK, begin * 30 + "x" + end * 30), ("TooMany", {"limit": 30}))
            self.assertIsNone(self.check(begin * 29 + "x" + end * 29))
            self.assertEqual(place_in(BOOK, begin * 31 + "x" + end * 31), place)
            self.assertEqual(told(read_task, BOOK, begin * 31 + "x" + end * 31), ("NoText", {"place": place}))
            self.assertEqual(told(read_task, BOOK, begin * 31), ("NoText", {"place": place}))
            self.assertEqual(told(read_task, BOOK, begin * 30), ("NoText", {"place": 30 * len(begin)}))
        self.assertEqual(told(read_task, BOOK, "(x, " * 30 + "k()" + ")" * 30), ("NoText", {"place": 121}))
        self.assertEqual(told(read_task, BOOK, "(x, " * 29 + "k()" + ")" * 29), None)
        # Brackets that are closed again do not count, and each of them counts once.
        self.assertEqual(self.check("((1, 2), " + "(x, " * 30), 9 + 4 * 29)
        self.assertEqual(self.check("(((k(), 2), f(1)), " + "(x, " * 30), 19 + 4 * 29)
        self.assertIsNone(self.check("(x, " * 26 + "((k() + f(1)) + k())" + ")" * 26))
        self.assertIsNone(self.check("((((1, 2), (3, 4)), ((1, 2), (3, 4))), (((k(), k()), (k(), k())), (k(), k())))"))

    def test_too_many_nodes_then_too_deep(self):
        def balanced(many):
            return "1" if many == 1 else f"({balanced(many // 2)} + {balanced(many - many // 2)})"

        self.assertEqual(len(read_task(BOOK, balanced(100)).nodes()), 199)
        self.assertEqual(len(read_task(BOOK, f"f({balanced(100)})").nodes()), 200)
        self.assertEqual(told(read_task, BOOK, balanced(101)), ("TooMany", {"limit": 200}))
        self.assertEqual(told(read_task, BOOK, f"f(f({balanced(100)}))"), ("TooMany", {"limit": 200}))
        self.assertEqual(told(read_task, BOOK, "f(" * 29 + "x" + ")" * 29), None)
        self.assertEqual(told(read_task, BOOK, "f(" * 30 + "x" + ")" * 30), ("TooMany", {"limit": 30}))
        deep = "(x, " * 28 + f"({balanced(2)} + {balanced(2)})" + ")" * 28
        self.assertEqual(told(read_task, BOOK, deep), ("TooMany", {"limit": 30}))
        wide = f"({balanced(90)} + " + "f(" * 29 + "x" + ")" * 29 + ")"
        self.assertEqual(told(read_task, BOOK, wide), ("TooMany", {"limit": 200}))
        self.assertEqual(told(read_task, BOOK, wide + " "), ("NoText", {"place": len(wide)}))
        self.assertEqual(told(read_task, BOOK, wide[:-1]), ("NoText", {"place": len(wide) - 1}))
        self.assertEqual(told(read_task, BOOK, balanced(2000)), ("TooMany", {"limit": 200}))

    def test_by_name(self):
        self.assertEqual(read_task(text="(x + 1)", book=BOOK), read_task(BOOK, "(x + 1)"))


class Equality(unittest.TestCase):
    def test_read_made_and_put_again(self):
        for task in drawn_tasks(84, 60, 8, guards=True):
            again = read_task(WIDE, str(task))
            self.assertEqual(again, task)
            self.assertEqual(Task(WIDE, task.expression, points=task.points), again)
            for path in task.nodes():
                self.assertEqual(again.put(path, task.node(path)), task)
            for path in task.open_nodes():
                self.assertNotEqual(again.with_points(path), task)
            self.assertNotEqual(again.put((), 7), task)
            self.assertNotEqual(again, str(task))

    def test_books(self):
        one, same = Book(Function("f", 1), Function("k")), Book(Function("k"), Function("f", 1))
        self.assertEqual(read_task(one, "f(k())"), read_task(same, "f(k())"))
        for other in (Book(Function("f", 1), Function("k", stores=("x",))), Book(*[same[name] for name in "fk"], Function("g"))):
            self.assertNotEqual(read_task(one, "f(k())"), read_task(other, "f(k())"))


class ShowTerm(unittest.TestCase):
    def test_each_kind(self):
        x, y = ("first", "x"), ("first", "y")
        for term, text in [
            (0, "0"), (7, "7"), (999999, "999999"), (-3, "-3"), (x, "x"), (("first", "abcdefgh"), "abcdefgh"),
            (("+", x, 1), "(x + 1)"), (("-", x, y), "(x - y)"), (("*", 1, 2), "(1 * 2)"), (("<", x, x), "(x < x)"),
            (("value", "k", ()), "k()"), (("value", "f", (x,)), "f(x)"), (("value", "f", (1, x, y)), "f(1, x, y)"),
            (("left", "k", "x", ()), "k.x()"), (("left", "f", "y", (1, x)), "f.y(1, x)"),
            (("+", ("+", x, 1), ("-", 1, y)), "((x + 1) + (1 - y))"),
            (("value", "f", (("left", "g", "x", (("value", "k", ()), ("*", x, 2))),)), "f(g.x(k(), (x * 2)))"),
            (("value", "x", (x,)), "x(x)"), (("left", "x", "x", (x,)), "x.x(x)"), (("first", "left"), "left"),
            (("value", "value", (("first", "first"),)), "value(first)"),
        ]:
            self.assertEqual(show_term(term), text)
            self.assertEqual(show_term(term=term), text)

    def test_unlike_terms_have_unlike_texts(self):
        terms = [0, 1, ("first", "x"), ("first", "f"), ("value", "f", ()), ("left", "f", "x", ()), ("left", "x", "f", ())]
        pairs = [(one, other) for one in terms for other in terms]
        terms += [(sign, one, other) for sign in "+-*<" for one, other in pairs]
        for inputs in [*pairs, *[(one,) for one in terms]]:
            terms += [("value", "f", inputs), ("value", "x", inputs), ("left", "f", "x", inputs), ("left", "x", "f", inputs)]
        texts = [show_term(term) for term in terms]
        self.assertEqual(len(set(texts)), len(terms))

    def test_terms_that_come_about(self):
        terms = {}
        for task in drawn_tasks(85, 60, 7):
            for (value, contents), order in all_results(task):
                for term in (value, *[content for place, content in contents]):
                    self.assertEqual(terms.setdefault(show_term(term), term), term)
        self.assertGreater(len(terms), 100)

    def test_nested_deep(self):
        term, text = ("first", "x"), "x"
        for _ in range(5000):
            term, text = ("+", term, 1), f"({text} + 1)"
        self.assertEqual(show_term(term), text)


if __name__ == "__main__":
    unittest.main()
