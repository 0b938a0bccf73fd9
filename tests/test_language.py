"""The package's own files keep to the small part of Python that it is written in.

This looks for what can be seen of the rules line by line and node by node; it doesn't stand for reading them. Some of it
is narrower than the rules, where the package needs no more: no error is taken, no set is kept.
"""

import ast
import builtins
import pathlib
import re
import unittest

PACKAGE = pathlib.Path(__file__).resolve().parent.parent / "mainskeep"

OWN_NAMES = set("""len range enumerate zip min max sum abs sorted reversed int str bool bytes list tuple dict set
    frozenset isinstance ord repr any all divmod Exception ValueError TypeError KeyError IndexError LookupError
    ZeroDivisionError ArithmeticError OverflowError RuntimeError NotImplementedError AttributeError
    StopIteration""".split())
UNDERSCORED = ("__init__", "__eq__", "__repr__", "__str__", "__len__", "__all__", "__version__")
METHODS = set("""append clear copy count endswith extend find get index insert isalnum isalpha isdigit islower isspace
    isupper items join keys ljust lower lstrip partition pop remove replace reverse rfind rjust rpartition rsplit
    rstrip setdefault split splitlines startswith strip update upper values zfill bit_length title capitalize
    swapcase casefold center expandtabs removeprefix removesuffix rindex isascii isdecimal isnumeric istitle
    isidentifier isprintable encode decode hex fromhex to_bytes from_bytes translate maketrans sort add discard
    __init__""".split())
WORDS = re.compile(r"\b(type|typing|typing_extensions|enum|Enum|IntEnum|StrEnum|Flag|IntFlag|Generic|Protocol|ABC"
                   r"|ABCMeta|namedtuple|NamedTuple|TypedDict|TYPE_CHECKING|abstractmethod)\b"
                   r"|dataclass|overload|contextmanager")
TOP = (ast.Expr, ast.ImportFrom, ast.FunctionDef, ast.ClassDef, ast.Assign, ast.AnnAssign)
WALKED = ("zip", "enumerate", "reversed", "range", "items", "keys", "values")
WALKERS = ("list", "tuple", "dict", "sorted", "sum", "any", "all", "enumerate", "zip", "bytes", "min", "max")
NAMES_OUT = set("""register mro elements open input version_info with_traceback add_note attrgetter breakpoint builtins
    compile copyright credits delattr dir eval exec exit gc getattr globals hasattr help id importlib license locals
    methodcaller os quit setattr super type vars sys format format_map print""".split())
CHANGES = set("append clear extend insert pop remove reverse setdefault update sort add discard".split())
OWN_METHODS = set("""add discard append clear copy count endswith extend find get index insert isalnum isalpha isdigit
    islower isspace isupper items join keys ljust lower lstrip partition pop remove replace reverse rfind rjust
    rpartition rsplit rstrip setdefault split splitlines startswith strip update upper values zfill title""".split())
OWN_VALUES = set("count index title find get join lower upper split strip copy add".split())
PYTHON_S = set().union(*[dir(kind) for kind in (str, int, list, dict, set, bytes, tuple)])
NOT_USED = (ast.With, ast.Match, ast.Global, ast.Nonlocal, ast.Yield, ast.YieldFrom, ast.Await, ast.AsyncFunctionDef,
            ast.AsyncFor, ast.AsyncWith, ast.GeneratorExp, ast.NamedExpr, ast.Div, ast.MatMult, ast.Import)


def trees():
    for path in sorted(PACKAGE.rglob("*.py")):
        text = path.read_text(encoding="utf-8")
        yield path, text, ast.parse(text)


def parents_of(tree):
    return {child: node for node in ast.walk(tree) for child in ast.iter_child_nodes(node)}


def called_name(node):
    """The name of what is called, of a method too; None where it is no call."""
    if not isinstance(node, ast.Call):
        return None
    return node.func.id if isinstance(node.func, ast.Name) else getattr(node.func, "attr", None)


def parts_of_classes():
    """The names of all methods and of all values of the package's classes."""
    methods, values = set(), set()
    for path, text, tree in trees():
        for node in ast.walk(tree):
            if isinstance(node, ast.ClassDef):
                methods |= {part.name for part in node.body if isinstance(part, ast.FunctionDef)}
            elif isinstance(node, ast.Attribute) and isinstance(node.ctx, ast.Store):
                values.add(node.attr)
    return methods, values


def bound_names(tree):
    for node in ast.walk(tree):
        if isinstance(node, ast.Name) and isinstance(node.ctx, ast.Store):
            yield node.id
        elif isinstance(node, (ast.FunctionDef, ast.ClassDef)):
            yield node.name
        elif isinstance(node, ast.arg):
            yield node.arg


class TestLanguage(unittest.TestCase):
    def test_nothing_else_lies_in_the_package(self):
        self.assertTrue((PACKAGE / "__init__.py").is_file())
        for path in PACKAGE.rglob("*"):
            if "__pycache__" not in path.parts and path.is_file():
                self.assertRegex(path.name, r"^[a-z0-9_]+\.py$")

    def test_sizes_and_signs(self):
        for path, text, tree in trees():
            rows = text.split("\n")
            self.assertLessEqual(len(rows), 400, path)
            for number, row in enumerate(rows, start=1):
                self.assertLessEqual(len(row), 120, (path, number))
                self.assertRegex(row, r"^[ -~]*$", (path, number))
                self.assertIsNone(WORDS.search(row), (path, number))
            for node in ast.walk(tree):
                if isinstance(node, ast.FunctionDef):
                    self.assertLessEqual(node.end_lineno - node.lineno + 1, 40, (path, node.name))

    def test_the_top_of_a_file(self):
        for path, text, tree in trees():
            for node in tree.body:
                self.assertIsInstance(node, TOP, (path, node.lineno))

    def test_imports_are_the_package_s_own(self):
        for path, text, tree in trees():
            for node in ast.walk(tree):
                if isinstance(node, ast.ImportFrom):
                    self.assertEqual(node.level, 0, (path, node.lineno))
                    self.assertRegex(node.module, r"^(mainskeep\.[a-z_]+|__future__)$", (path, node.lineno))
                    self.assertNotIn("*", [name.name for name in node.names], (path, node.lineno))

    def test_statements_and_values(self):
        for path, text, tree in trees():
            for node in ast.walk(tree):
                where = (path, getattr(node, "lineno", None))
                self.assertNotIsInstance(node, NOT_USED, where)
                if isinstance(node, ast.Constant):
                    self.assertNotIsInstance(node.value, (float, complex), where)
                    if isinstance(node.value, str):
                        self.assertNotIn("%", node.value, where)
                if isinstance(node, (ast.For, ast.While)):
                    self.assertEqual(node.orelse, [], where)
                if isinstance(node, (ast.FunctionDef, ast.ClassDef)):
                    self.assertEqual(node.decorator_list, [], where)
                if isinstance(node, ast.ExceptHandler):
                    self.assertIsNotNone(node.type, where)

    def test_is_stands_beside_none_and_truths(self):
        for path, text, tree in trees():
            for node in ast.walk(tree):
                if isinstance(node, ast.Compare):
                    for operator, other in zip(node.ops, node.comparators):
                        if isinstance(operator, (ast.Is, ast.IsNot)):
                            self.assertIn(ast.dump(other), [ast.dump(ast.Constant(one)) for one in (None, True, False)])

    def test_parameters(self):
        for path, text, tree in trees():
            for node in ast.walk(tree):
                if isinstance(node, ast.arguments):
                    self.assertEqual((node.vararg, node.kwarg, node.posonlyargs), (None, None, []), path)

    def test_names(self):
        for path, text, tree in trees():
            for name in bound_names(tree):
                if name not in UNDERSCORED:
                    self.assertRegex(name, r"^[A-Za-z][A-Za-z0-9_]*$", path)
                    self.assertNotIn(name, dir(builtins), path)

    def test_no_local_is_called_like_an_import_or_a_class(self):
        for path, text, tree in trees():
            taken = set()
            for node in tree.body:
                if isinstance(node, ast.ImportFrom):
                    taken |= {name.asname or name.name for name in node.names}
                elif isinstance(node, ast.ClassDef):
                    taken.add(node.name)
            for node in ast.walk(tree):
                if isinstance(node, ast.arg):
                    self.assertNotIn(node.arg, taken, (path, node.lineno))
                elif isinstance(node, ast.Name) and isinstance(node.ctx, ast.Store):
                    self.assertNotIn(node.id, taken, (path, node.lineno))

    def test_each_name_of_a_file_s_top_once(self):
        for path, text, tree in trees():
            names = []
            for node in tree.body:
                if isinstance(node, ast.ImportFrom):
                    names += [name.asname or name.name for name in node.names]
                elif isinstance(node, (ast.FunctionDef, ast.ClassDef)):
                    names.append(node.name)
                elif isinstance(node, ast.Assign):
                    names += [target.id for target in node.targets]
            self.assertEqual(len(names), len(set(names)), path)

    def test_names_are_drawn_from_the_file_that_defines_them(self):
        defined = {path.stem: {node.name for node in tree.body if isinstance(node, (ast.FunctionDef, ast.ClassDef))}
                   | {target.id for node in tree.body if isinstance(node, ast.Assign) for target in node.targets}
                   for path, text, tree in trees()}
        for path, text, tree in trees():
            for node in tree.body:
                if isinstance(node, ast.ImportFrom):
                    for name in node.names:
                        self.assertIn(name.name, defined[node.module.split(".")[-1]], (path, node.lineno))

    def test_no_two_files_draw_from_one_another(self):
        drawn = {path.stem: {node.module.split(".")[-1] for node in tree.body if isinstance(node, ast.ImportFrom)}
                 for path, text, tree in trees()}
        left = dict(drawn)
        while left:
            free = [name for name in left if not left[name] & set(left)]
            self.assertTrue(free, left)
            for name in free:
                del left[name]

    def test_all_that_is_drawn_is_used(self):
        for path, text, tree in trees():
            used = {node.id for node in ast.walk(tree) if isinstance(node, ast.Name)}
            for node in tree.body:
                if isinstance(node, ast.ImportFrom):
                    for name in node.names:
                        self.assertIn(name.asname or name.name, used, (path, node.lineno))

    def test_no_name_is_a_method_and_a_value(self):
        methods, values = parts_of_classes()
        self.assertEqual(methods & values, set())

    def test_methods_and_values_are_not_called_like_python_s(self):
        methods, values = parts_of_classes()
        self.assertEqual((methods - {"__init__"}) & (PYTHON_S - OWN_METHODS), set())
        self.assertEqual(values & (PYTHON_S - OWN_VALUES), set())
        for name in ("items", "keys", "values"):
            self.assertNotIn(name, methods)

    def test_names_that_are_not_used(self):
        for path, text, tree in trees():
            for node in ast.walk(tree):
                for field in ("id", "attr", "arg", "name"):
                    name = getattr(node, field, None)
                    if isinstance(name, str):
                        self.assertNotIn(name, NAMES_OUT, (path, getattr(node, "lineno", None)))

    def test_own_defs_are_handed_what_they_take(self):
        takes = {}
        for path, text, tree in trees():
            for node in tree.body:
                if isinstance(node, ast.FunctionDef):
                    takes[path.stem, node.name] = len(node.args.args)
                    self.assertEqual((node.args.defaults, node.args.kwonlyargs), ([], []), (path, node.name))
        for path, text, tree in trees():
            here = {name: many for (stem, name), many in takes.items() if stem == path.stem}
            for node in tree.body:
                if isinstance(node, ast.ImportFrom):
                    for name in node.names:
                        here[name.name] = takes.get((node.module.split(".")[-1], name.name))
            for node in ast.walk(tree):
                many = here.get(called_name(node)) if isinstance(getattr(node, "func", None), ast.Name) else None
                if many is not None:
                    self.assertEqual(len(node.args), many, (path, node.lineno))
                    self.assertEqual(node.keywords, [], (path, node.lineno))

    def test_what_is_walked_is_walked_on_the_spot(self):
        for path, text, tree in trees():
            parents = parents_of(tree)
            for node in ast.walk(tree):
                if called_name(node) in WALKED:
                    above = parents[node]
                    walked = isinstance(above, (ast.For, ast.comprehension)) and above.iter is node
                    handed = called_name(above) in WALKERS and node in above.args
                    self.assertTrue(walked or handed, (path, node.lineno))

    def test_sets_are_asked_on_the_spot(self):
        for path, text, tree in trees():
            parents = parents_of(tree)
            for node in ast.walk(tree):
                if isinstance(node, (ast.Set, ast.SetComp)) or called_name(node) in ("set", "frozenset"):
                    self.assertIn(called_name(parents[node]), ("sorted", "len"), (path, node.lineno))

    def test_powers_have_a_written_exponent(self):
        for path, text, tree in trees():
            for node in ast.walk(tree):
                if isinstance(node, ast.BinOp) and isinstance(node.op, ast.Pow):
                    self.assertIsInstance(node.right, ast.Constant, (path, node.lineno))
                    self.assertIn(node.right.value, range(65), (path, node.lineno))

    def test_escapes_and_written_texts(self):
        for path, text, tree in trees():
            self.assertIsNone(re.search(r"\\[^nt\\'\"]", text), path)
            for node in ast.walk(tree):
                if isinstance(node, ast.FormattedValue):
                    self.assertIsNone(node.format_spec, (path, node.lineno))

    def test_what_a_file_s_top_keeps_is_plain_and_only_read(self):
        for path, text, tree in trees():
            kept, parents = set(), parents_of(tree)
            for node in tree.body:
                if isinstance(node, ast.Assign):
                    inner = [part for part in ast.walk(node.value) if part is not node.value]
                    for part in inner + [node.value]:
                        self.assertNotIsInstance(part, (ast.Call, ast.ListComp, ast.DictComp, ast.Set, ast.Lambda))
                    for part in inner:
                        self.assertNotIsInstance(part, (ast.List, ast.Dict), (path, node.lineno))
                    if isinstance(node.value, (ast.List, ast.Dict)):
                        kept.add(node.targets[0].id)
            for node in ast.walk(tree):
                if isinstance(node, ast.Name) and isinstance(node.ctx, ast.Load) and node.id in kept:
                    above = parents[node]
                    read = isinstance(above, ast.Subscript) and isinstance(above.ctx, ast.Load) and above.value is node
                    asked = isinstance(above, ast.Compare) and isinstance(above.ops[0], (ast.In, ast.NotIn))
                    self.assertTrue(read or asked, (path, node.lineno))

    def test_what_a_loop_walks_is_not_changed_in_it(self):
        for path, text, tree in trees():
            for loop in ast.walk(tree):
                if isinstance(loop, ast.For):
                    walked = {node.id for node in ast.walk(loop.iter) if isinstance(node, ast.Name)}
                    for row in loop.body:
                        for node in ast.walk(row):
                            if called_name(node) in CHANGES and isinstance(node.func, ast.Attribute):
                                self.assertNotIn(ast.unparse(node.func.value), walked, (path, node.lineno))

    def test_no_error_is_taken(self):
        # So that nothing hangs on what else could have raised it.
        for path, text, tree in trees():
            for node in ast.walk(tree):
                self.assertNotIsInstance(node, ast.Try, (path, getattr(node, "lineno", None)))

    def test_python_s_own_names(self):
        for path, text, tree in trees():
            bound = set(bound_names(tree))
            for node in ast.walk(tree):
                if isinstance(node, ast.ImportFrom):
                    bound |= {name.asname or name.name for name in node.names}
            for node in ast.walk(tree):
                if isinstance(node, ast.Name) and isinstance(node.ctx, ast.Load):
                    self.assertIn(node.id, OWN_NAMES | bound, (path, node.lineno))

    def test_methods_and_values(self):
        own = set()
        for path, text, tree in trees():
            for node in ast.walk(tree):
                if isinstance(node, ast.Attribute) and isinstance(node.ctx, ast.Store):
                    own.add(node.attr)
                elif isinstance(node, ast.ClassDef):
                    own |= {part.name for part in node.body if isinstance(part, ast.FunctionDef)}
        for path, text, tree in trees():
            for node in ast.walk(tree):
                if isinstance(node, ast.Attribute):
                    self.assertIn(node.attr, METHODS | own, (path, node.lineno))


if __name__ == "__main__":
    unittest.main()
