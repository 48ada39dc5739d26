"""The simple ones of the rules of ../shared/LANGUAGE.md, for the files of the package."""

import ast
import builtins
import pathlib
import re
import unittest
import warnings

import ordersopen

FOLDER = pathlib.Path(ordersopen.__file__).parent
BUILTINS = set("""len range enumerate zip min max sum abs sorted reversed int str bool bytes list tuple dict set frozenset
    isinstance ord repr any all divmod iter next Exception ValueError TypeError KeyError IndexError LookupError
    ZeroDivisionError ArithmeticError OverflowError RuntimeError NotImplementedError AttributeError StopIteration
    NotImplemented super property staticmethod classmethod""".split())
METHODS = set("""append clear copy count endswith extend find get index insert isalnum isalpha isdigit islower isspace
    isupper items join keys ljust lower lstrip partition pop remove replace reverse rfind rjust rpartition rsplit rstrip
    setdefault split splitlines startswith strip update upper values zfill bit_length add discard title capitalize
    swapcase casefold center expandtabs removeprefix removesuffix rindex isascii isdecimal isnumeric istitle isidentifier
    isprintable translate""".split())
DOUBLE = set("""__init__ __eq__ __repr__ __str__ __len__ __enter__ __exit__ __call__ __iter__ __contains__ __getitem__
    __setitem__ __bool__ __lt__ __le__ __gt__ __ge__ __ne__ __slots__ __all__ __version__ __name__""".split())
WORDS = set("""type typing typing_extensions enum Enum IntEnum StrEnum Flag IntFlag Generic Protocol ABC ABCMeta
    namedtuple NamedTuple TypedDict TYPE_CHECKING abstractmethod""".split())
PARTS = ("dataclass", "overload", "contextmanager")
NEVER = set("register mro elements open input law version_info with_traceback add_note".split())
BARRED = set("""attrgetter breakpoint builtins compile copyright credits delattr dir eval exec exit gc getattr globals
    hasattr help id importlib license locals methodcaller os quit setattr super type vars sys""".split())
STATEMENTS = (ast.Import, ast.Global, ast.AsyncFunctionDef, ast.AsyncFor, ast.AsyncWith, ast.Await, ast.Div,
              ast.MatMult, ast.Set)
LAZY = ("zip", "enumerate", "reversed", "range", "items", "keys", "values")
TAKERS = ("list", "tuple", "dict", "sorted", "sum", "any", "all", "enumerate", "zip", "min", "max", "join")
NO_ATTRIBUTES = set("""items keys values pop update append clear extend insert remove reverse setdefault sort args encode
    decode hex fromhex format format_map mro""".split())
TOP = (ast.ImportFrom, ast.FunctionDef, ast.ClassDef, ast.Assign, ast.Expr)


def sources():
    return {path.stem: path.read_text(encoding="utf-8") for path in sorted(FOLDER.glob("*.py"))}


def trees():
    return {name: ast.parse(text) for name, text in sources().items()}


def all_nodes(kind):
    for name, tree in trees().items():
        for node in ast.walk(tree):
            if isinstance(node, kind):
                yield name, node


def called(node):
    """The name of the function or method that a call calls."""
    return node.func.id if isinstance(node.func, ast.Name) else getattr(node.func, "attr", None)


def own_generators():
    """The names of the functions and methods of the package that yield."""
    return {node.name for name, node in all_nodes(ast.FunctionDef)
            if any(isinstance(child, (ast.Yield, ast.YieldFrom)) for child in ast.walk(node))}


def bound(tree):
    """The names that a file binds anywhere."""
    names = set()
    for node in ast.walk(tree):
        if isinstance(node, (ast.FunctionDef, ast.ClassDef)):
            names.add(node.name)
        elif isinstance(node, ast.arg):
            names.add(node.arg)
        elif isinstance(node, ast.Name) and isinstance(node.ctx, ast.Store):
            names.add(node.id)
        elif isinstance(node, ast.alias):
            names.add(node.asname or node.name)
        elif isinstance(node, ast.ExceptHandler) and node.name:
            names.add(node.name)
    return names


def module_names(tree):
    names = [child.name for child in tree.body if isinstance(child, (ast.FunctionDef, ast.ClassDef))]
    names += [target.id for child in tree.body if isinstance(child, ast.Assign) for target in child.targets]
    names += [alias.asname or alias.name for child in tree.body if isinstance(child, ast.ImportFrom)
              for alias in child.names]
    return names


def imports():
    return {name: [child.module.split(".", 1)[1] for child in tree.body if isinstance(child, ast.ImportFrom)]
            for name, tree in trees().items()}


class Files(unittest.TestCase):
    def test_only_plain_files(self):
        for path in FOLDER.iterdir():
            if path.name != "__pycache__":
                self.assertTrue(path.is_file() and re.fullmatch(r"[a-z][a-z0-9_]*\.py|__init__\.py", path.name), path)
        self.assertIn("__init__", sources())

    def test_sizes(self):
        for name, text in sources().items():
            lines = text.split("\n")
            self.assertLess(len(lines), 400, name)
            self.assertLessEqual(max(map(len, lines)), 120, name)
        for name, node in all_nodes(ast.FunctionDef):
            self.assertLessEqual(node.end_lineno - node.lineno + 1, 40, node.name)

    def test_characters(self):
        for name, text in sources().items():
            self.assertEqual(re.findall(r"[^ -~\n]", text), [], name)

    def test_no_line_for_which_python_warns(self):
        with warnings.catch_warnings():
            warnings.simplefilter("error")
            for name, text in sources().items():
                compile(text, name, "exec")

    def test_words(self):
        for name, text in sources().items():
            self.assertEqual(WORDS & set(re.findall(r"\w+", text)), set(), name)
            for part in PARTS:
                self.assertNotIn(part, text, name)


class Modules(unittest.TestCase):
    def test_top_level(self):
        for name, tree in trees().items():
            for child in tree.body:
                self.assertIsInstance(child, TOP, name)
                if isinstance(child, ast.Expr):
                    self.assertIsInstance(child.value, ast.Constant)
                if isinstance(child, ast.Assign):
                    self.assertIsInstance(child.targets[0], ast.Name)
                    self.assertEqual(len(child.targets), 1)

    def test_each_name_is_bound_once(self):
        for name, tree in trees().items():
            names = module_names(tree)
            self.assertEqual(len(names), len(set(names)), name)

    def test_imports_stand_at_the_top_and_name_the_defining_file(self):
        found = trees()
        for name, tree in found.items():
            kinds = [isinstance(child, ast.ImportFrom) for child in tree.body if not isinstance(child, ast.Expr)]
            self.assertEqual(kinds, sorted(kinds, reverse=True), name)
        for name, node in all_nodes(ast.ImportFrom):
            self.assertEqual((node.level, node.module.split(".")[0]), (0, "ordersopen"), name)
            source = found[node.module.split(".", 1)[1]]
            defined = [child.name for child in source.body if isinstance(child, (ast.FunctionDef, ast.ClassDef))]
            defined += [child.targets[0].id for child in source.body if isinstance(child, ast.Assign)]
            for alias in node.names:
                self.assertIn(alias.name, defined, name)
                self.assertIsNone(alias.asname)

    def test_every_import_is_used(self):
        for name, tree in trees().items():
            used = {node.id for node in ast.walk(tree) if isinstance(node, ast.Name)}
            taken = {alias.name for child in tree.body if isinstance(child, ast.ImportFrom) for alias in child.names}
            self.assertEqual(taken - used, set(), name)

    def test_no_circles(self):
        below = imports()
        self.assertEqual(below["__init__"], [])
        while below:
            free = [name for name, others in below.items() if not set(others) & set(below)]
            self.assertTrue(free, below)
            for name in free:
                del below[name]


class Code(unittest.TestCase):
    def test_barred_statements_and_signs(self):
        for name, node in all_nodes(STATEMENTS):
            self.fail(f"{name}: {ast.dump(node)}")

    def test_no_floats_and_no_percent_sign(self):
        for name, node in all_nodes(ast.Constant):
            self.assertNotIsInstance(node.value, (float, complex), name)
            if isinstance(node.value, str):
                self.assertNotIn("%", node.value, name)

    def test_builtins(self):
        for name, tree in trees().items():
            own = bound(tree)
            for node in ast.walk(tree):
                if isinstance(node, ast.Name) and node.id not in own:
                    self.assertIn(node.id, BUILTINS, name)
            self.assertEqual(own & set(vars(builtins)) - {"__init__"}, set(), name)

    def test_names(self):
        for name, tree in trees().items():
            attributes = {node.attr for node in ast.walk(tree) if isinstance(node, ast.Attribute)}
            for word in bound(tree) | attributes:
                self.assertTrue(word in DOUBLE or re.fullmatch(r"[A-Za-z][A-Za-z0-9_]*", word), word)
                self.assertNotIn(word, NEVER, name)
            self.assertEqual(bound(tree) & BARRED, set(), name)

    def test_no_local_name_of_a_class_or_import(self):
        for name, tree in trees().items():
            taken = {child.name for child in tree.body if isinstance(child, ast.ClassDef)}
            taken |= {alias.name for child in tree.body if isinstance(child, ast.ImportFrom) for alias in child.names}
            for node in ast.walk(tree):
                if isinstance(node, ast.arg):
                    self.assertNotIn(node.arg, taken, name)
                if isinstance(node, ast.Name) and isinstance(node.ctx, ast.Store):
                    self.assertNotIn(node.id, taken, name)

    def test_is_stands_beside_none_true_and_false_only(self):
        for name, node in all_nodes(ast.Compare):
            for sign, right in zip(node.ops, node.comparators):
                if isinstance(sign, (ast.Is, ast.IsNot)):
                    self.assertTrue(isinstance(right, ast.Constant) and right.value in (None, True, False), name)

    def test_methods(self):
        own = {child.name for name, node in all_nodes(ast.ClassDef) for child in node.body
               if isinstance(child, ast.FunctionDef)}
        for name, node in all_nodes(ast.Call):
            if isinstance(node.func, ast.Attribute):
                self.assertIn(node.func.attr, METHODS | own, name)

    def test_what_is_iterated_at_once(self):
        lazy = {*LAZY, *own_generators()}
        for name, tree in trees().items():
            parents = {child: node for node in ast.walk(tree) for child in ast.iter_child_nodes(node)}
            for node, parent in parents.items():
                if isinstance(node, ast.Call) and called(node) in lazy:
                    if isinstance(parent, (ast.For, ast.comprehension)):
                        self.assertIs(parent.iter, node, name)
                    elif isinstance(parent, ast.Compare):
                        self.assertEqual((called(node), type(parent.ops[0])), ("range", ast.In), name)
                    else:
                        self.assertIsInstance(parent, ast.Call, f"{name}: line {node.lineno}")
                        self.assertIn(called(parent), TAKERS, f"{name}: line {node.lineno}")
                        self.assertIs(parent.args[0], node, name)

    def test_names_of_generators(self):
        names = [node.name for name, node in all_nodes(ast.FunctionDef)]
        for name in own_generators():
            self.assertEqual(names.count(name), 1, name)
            self.assertNotIn(name, METHODS)

    def test_attributes(self):
        stored = {node.attr for name, node in all_nodes(ast.Attribute) if isinstance(node.ctx, ast.Store)}
        self.assertEqual(stored & NO_ATTRIBUTES, set())
        in_classes = [child for name, node in all_nodes(ast.ClassDef) for child in node.body]
        known = stored | {child.name for child in in_classes if isinstance(child, ast.FunctionDef)}
        known |= {target.id for child in in_classes if isinstance(child, ast.Assign) for target in child.targets}
        for name, tree in trees().items():
            functions = {id(node.func) for node in ast.walk(tree) if isinstance(node, ast.Call)}
            for node in ast.walk(tree):
                if isinstance(node, ast.Attribute) and id(node) not in functions:
                    self.assertIn(node.attr, known, name)

    def test_calls_with_stars(self):
        for name, node in all_nodes(ast.Call):
            for argument in node.args:
                if isinstance(argument, ast.Starred):
                    value = argument.value.value if isinstance(argument.value, ast.Attribute) else argument.value
                    self.assertIsInstance(value, ast.Name, f"{name}: line {node.lineno}")
            self.assertTrue(all(keyword.arg for keyword in node.keywords), f"{name}: line {node.lineno}")

    def test_what_stands_in_a_finally(self):
        for name, node in all_nodes(ast.Try):
            for child in node.finalbody:
                self.assertIsInstance(child, ast.Assign, name)
                for part in ast.walk(child):
                    self.assertIsInstance(part, (ast.Assign, ast.Tuple, ast.Name, ast.Attribute, ast.expr_context), name)
            for handler in node.handlers:
                kinds = handler.type.elts if isinstance(handler.type, ast.Tuple) else [handler.type]
                self.assertEqual([kind.id for kind in kinds if kind.id in BUILTINS - {"KeyError"}], [], name)

    def test_no_power_of_two(self):
        for name, node in all_nodes(ast.BinOp):
            if isinstance(node.op, ast.Pow):
                self.assertIsInstance(node.right, ast.Constant, name)

    def test_sets_are_not_used(self):
        for name, node in all_nodes((ast.SetComp, ast.Set)):
            self.fail(f"{name}: line {node.lineno}")
        for name, node in all_nodes(ast.Name):
            self.assertNotIn(node.id, ("set", "frozenset"), name)

    def test_module_level_dicts_are_only_read(self):
        for name, tree in trees().items():
            dicts = {child.targets[0].id for child in tree.body
                     if isinstance(child, ast.Assign) and isinstance(child.value, (ast.Dict, ast.List))}
            for node in ast.walk(tree):
                if isinstance(node, ast.Subscript) and isinstance(node.value, ast.Name) and node.value.id in dicts:
                    self.assertIsInstance(node.ctx, ast.Load, name)

    def test_no_sort_beside_equality(self):
        for name, node in all_nodes(ast.Attribute):
            self.assertNotEqual(node.attr, "sort", name)

    def test_no_generator_expression_beside_operators(self):
        for name, node in all_nodes(ast.GeneratorExp):
            self.fail(f"{name}: line {node.lineno}")

    def test_parameters_and_decorators(self):
        for name, tree in trees().items():
            methods = {child for node in ast.walk(tree) if isinstance(node, ast.ClassDef) for child in node.body}
            for node in ast.walk(tree):
                if isinstance(node, ast.FunctionDef):
                    self.assertEqual(node.args.posonlyargs, [], node.name)
                    allowed = {"property", "staticmethod", "classmethod"} if node in methods else set()
                    for decorator in node.decorator_list:
                        is_setter = isinstance(decorator, ast.Attribute) and decorator.attr == "setter"
                        self.assertTrue(is_setter or decorator.id in allowed, node.name)
                if isinstance(node, ast.ClassDef):
                    self.assertEqual(node.decorator_list + node.keywords, [], node.name)

    def test_no_name_is_a_method_and_an_attribute(self):
        methods = {child.name for name, node in all_nodes(ast.ClassDef) for child in node.body
                   if isinstance(child, ast.FunctionDef) and not child.decorator_list}
        stored = {node.attr for name, node in all_nodes(ast.Attribute) if isinstance(node.ctx, ast.Store)}
        self.assertEqual(methods & stored, set())

    def test_double_underscore_methods(self):
        for name, node in all_nodes(ast.FunctionDef):
            returns = [child for child in ast.walk(node) if isinstance(child, ast.Return)]
            if node.name == "__init__":
                self.assertEqual(returns, [], name)
            if node.name in ("__len__", "__str__", "__repr__"):
                self.assertIsInstance(node.body[-1], ast.Return, name)
            if node.name == "__len__":
                for child in returns:
                    self.assertTrue(isinstance(child.value, ast.Call) and child.value.func.id == "len", name)


if __name__ == "__main__":
    unittest.main()
