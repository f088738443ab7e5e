"""The package keeps to the language it is written in, as far as a look at its files can tell."""

import ast
import builtins
import functools
import pathlib
import re
import unittest
import warnings

PACKAGE = pathlib.Path(__file__).resolve().parent.parent / "tiedcut"

INTERFACE = {
    "errors": "TreeError NoRow NoPoint Ring NoTie Apart NoPlace NoDeed NoForest NoLine NoText",
    "ranks": "rank",
    "forests": "is_kind is_forest",
    "walking": "way_of part_of side_of meet_of",
    "tiedpapers": "tied_paper shows_tied",
    "rows": "is_row is_deed plain_word",
    "plainrows": "plain_do plain_rows",
    "turning": "Turning",
    "shapes": "is_shape weights credit_of shows_turned",
    "ways": "Ways",
    "wayshapes": "ties_of_shape untwisted stepped ways_bound",
    "roundmarks": "is_round ties_of_round",
    "rounds": "Rounds rounds_bound",
    "twin": "Twin",
    "books": "shows_book",
    "lightest": "Lightest",
    "lightpapers": "shows_lightest",
    "holding": "Holding",
    "holdpapers": "shows_holding",
    "foresttexts": "show_forest read_forest",
    "rowtexts": "show_row read_row show_told",
    "desk": "Desk",
}

METHODS_OF = {
    ("turning", "Turning"): "__init__ lift order shape turns",
    ("ways", "Ways"): "__init__ do shape lead_up looks credit",
    ("rounds", "Rounds"): "__init__ do round shape lift looks credit",
    ("twin", "Twin"): "__init__ do forest looks book back done at",
    ("lightest", "Lightest"): "__init__ offer kept price slacks paper",
    ("holding", "Holding"): "__init__ offer holds holding paper",
    ("desk", "Desk"): "__init__ say",
}

BUILTINS = set((
    "len range enumerate zip min max sum abs sorted reversed int str bool bytes list tuple dict set frozenset isinstance "
    "ord repr any all divmod iter next super property staticmethod classmethod Exception ValueError TypeError KeyError "
    "IndexError LookupError ZeroDivisionError ArithmeticError OverflowError RuntimeError NotImplementedError "
    "AttributeError StopIteration NotImplemented").split())

OTHER_BUILTINS = {name for name in dir(builtins) if not name.startswith("_")}

BARRED_NAMES = set("register mro elements open input law version_info with_traceback add_note".split())

BARRED_WORDS = re.compile(
    r"\b(type|typing|typing_extensions|enum|Enum|IntEnum|StrEnum|Flag|IntFlag|Generic|Protocol|ABC|ABCMeta|namedtuple"
    r"|NamedTuple|TypedDict|TYPE_CHECKING|abstractmethod)\b|dataclass|overload|contextmanager")

METHODS = set((
    "append clear copy count endswith extend find get index insert isalnum isalpha isdigit islower isspace isupper items "
    "join keys ljust lower lstrip partition pop remove replace reverse rfind rjust rpartition rsplit rstrip setdefault "
    "split splitlines startswith strip update upper values zfill bit_length sort add discard removeprefix").split())

VALUES_METHODS = {name for value in ("", b"", 0, [], {}, set(), ()) for name in dir(value) if not name.startswith("_")}


def sources():
    return sorted(PACKAGE.glob("*.py"))


@functools.cache
def trees():
    return [(path.name, ast.parse(path.read_text(encoding="utf-8"))) for path in sources()]


def nodes(*kinds):
    return [(name, node) for name, tree in trees() for node in ast.walk(tree) if isinstance(node, kinds)]


def method_names():
    return {part.name for name, node in nodes(ast.ClassDef) for part in node.body if isinstance(part, ast.FunctionDef)}


def bound_names(tree):
    """Each name that a file gives to something of its own."""
    found = [node.id for node in ast.walk(tree) if isinstance(node, ast.Name) and isinstance(node.ctx, ast.Store)]
    found += [node.arg for node in ast.walk(tree) if isinstance(node, ast.arg)]
    found += [node.name for node in ast.walk(tree) if isinstance(node, (ast.FunctionDef, ast.ClassDef))]
    return found + [node.name for node in ast.walk(tree) if isinstance(node, ast.ExceptHandler) and node.name]


class Files(unittest.TestCase):

    def test_only_plain_files(self):
        for path in PACKAGE.iterdir():
            if path.name != "__pycache__":
                self.assertRegex(path.name, r"\A[a-z][a-z0-9_]*\.py\Z|\A__init__\.py\Z")

    def test_size_and_signs(self):
        for path in sources():
            text = path.read_text(encoding="utf-8")
            self.assertRegex(text, r"\A[ -~\n]*\Z", path.name)
            self.assertLess(len(text.splitlines()), 400, path.name)
            for line in text.splitlines():
                self.assertLessEqual(len(line), 120, path.name)
            self.assertIsNone(BARRED_WORDS.search(text), path.name)

    def test_python_gives_no_warning(self):
        for path in sources():
            with warnings.catch_warnings():
                warnings.simplefilter("error")
                compile(path.read_text(encoding="utf-8"), path.name, "exec")

    def test_small_functions(self):
        for name, node in nodes(ast.FunctionDef):
            self.assertLessEqual(node.end_lineno - node.lineno + 1, 40, (name, node.name))

    def test_interface_is_defined_where_it_is_listed(self):
        for file, names in INTERFACE.items():
            tree = ast.parse((PACKAGE / f"{file}.py").read_text(encoding="utf-8"))
            own = {node.name for node in tree.body if isinstance(node, (ast.FunctionDef, ast.ClassDef))}
            self.assertLessEqual(set(names.split()), own, file)

    def test_methods_are_defined_in_their_class_itself(self):
        for (file, name), methods in METHODS_OF.items():
            tree = ast.parse((PACKAGE / f"{file}.py").read_text(encoding="utf-8"))
            for node in tree.body:
                if isinstance(node, ast.ClassDef) and node.name == name:
                    own = {part.name for part in node.body if isinstance(part, ast.FunctionDef)}
                    self.assertLessEqual(set(methods.split()), own, name)


class Words(unittest.TestCase):

    def test_imports_from_the_file_that_defines_the_name(self):
        for name, node in nodes(ast.Import):
            self.fail(f"{name} imports a module")
        for name, node in nodes(ast.ImportFrom):
            self.assertEqual((node.level, node.module.split(".")[0], node.module.count(".")), (0, "tiedcut", 1), name)
            home = ast.parse((PACKAGE / (node.module.split(".")[1] + ".py")).read_text(encoding="utf-8"))
            own = {name for each in home.body for name in bound_names(each)}
            for alias in node.names:
                self.assertIn(alias.name, own, name)

    def test_no_two_files_import_from_each_other(self):
        ahead = {name[:-3]: set() for name, tree in trees()}
        for name, node in nodes(ast.ImportFrom):
            ahead[name[:-3]].add(node.module.split(".")[1])
        while ahead:
            free = [name for name in ahead if not ahead[name] & set(ahead)]
            self.assertTrue(free, ahead)
            for name in free:
                del ahead[name]

    def test_no_name_is_barred(self):
        methods = method_names()
        for name, tree in trees():
            for bound in bound_names(tree):
                # A method may have the name of a builtin that the package itself never uses.
                barred = BUILTINS | BARRED_NAMES | (OTHER_BUILTINS - methods)
                self.assertNotIn(bound, barred, name)
                self.assertTrue(bound == "__init__" or not bound.startswith("_"), (name, bound))

    def test_no_name_is_a_method_here_and_an_attribute_there(self):
        stored = {node.attr for name, node in nodes(ast.Attribute) if isinstance(node.ctx, ast.Store)}
        self.assertFalse(stored & method_names())
        self.assertFalse(stored & VALUES_METHODS)
        self.assertFalse(method_names() & (VALUES_METHODS - METHODS))

    def test_each_attribute_is_assigned_by_a_class(self):
        stored = {node.attr for name, node in nodes(ast.Attribute) if isinstance(node.ctx, ast.Store)}
        known = stored | method_names() | METHODS
        for name, node in nodes(ast.Attribute):
            self.assertIn(node.attr, known, name)

    def test_no_method_is_defined_twice(self):
        for name, node in nodes(ast.ClassDef):
            own = [part.name for part in node.body if isinstance(part, ast.FunctionDef)]
            self.assertEqual(len(own), len(set(own)), (name, node.name))

    def test_no_local_name_is_a_class_or_an_import(self):
        for name, tree in trees():
            held = [alias.asname or alias.name for node in tree.body if isinstance(node, ast.ImportFrom) for alias in node.names]
            held += [node.name for node in tree.body if isinstance(node, ast.ClassDef)]
            self.assertEqual(len(held), len(set(held)), name)
            inner = [bound for node in tree.body if not isinstance(node, ast.ClassDef) for bound in bound_names(node)]
            for node in tree.body:
                methods = node.body if isinstance(node, ast.ClassDef) else []
                inner += [bound for method in methods for part in ast.iter_child_nodes(method) for bound in bound_names(part)]
            self.assertFalse(set(held) & set(inner), name)

    def test_only_plain_builtins(self):
        for name, tree in trees():
            for node in ast.walk(tree):
                if isinstance(node, ast.Name) and node.id in OTHER_BUILTINS:
                    self.assertIn(node.id, BUILTINS, name)

    def test_only_plain_methods_of_values(self):
        own = {node.attr for name, node in nodes(ast.Attribute) if isinstance(node.ctx, ast.Store)}
        own |= {node.name for name, node in nodes(ast.FunctionDef)}
        for name, node in nodes(ast.Attribute):
            self.assertIn(node.attr, METHODS | own, name)

    def test_is_only_beside_none_and_truths(self):
        for name, node in nodes(ast.Compare):
            for sign, right in zip(node.ops, node.comparators):
                if isinstance(sign, (ast.Is, ast.IsNot)):
                    self.assertTrue(isinstance(right, ast.Constant) and right.value in (None, True, False), name)

    def test_no_barred_statement(self):
        barred = (ast.Global, ast.AsyncFunctionDef, ast.AsyncFor, ast.AsyncWith, ast.Await, ast.Div, ast.MatMult)
        self.assertEqual(nodes(*barred), [])

    def test_plain_strings_and_numbers(self):
        for name, node in nodes(ast.Constant):
            self.assertNotIsInstance(node.value, (float, complex), name)
            if isinstance(node.value, str):
                self.assertNotIn("%", node.value, name)

    def test_nothing_runs_at_module_level(self):
        plain = (ast.FunctionDef, ast.ClassDef, ast.ImportFrom, ast.Assign, ast.Expr)
        for name, tree in trees():
            for node in tree.body:
                self.assertIsInstance(node, plain, name)
                if isinstance(node, ast.Expr):
                    self.assertIsInstance(node.value, ast.Constant, name)
                if isinstance(node, ast.Assign):
                    self.assertFalse([part for part in ast.walk(node) if isinstance(part, (ast.Call, ast.Lambda))], name)


if __name__ == "__main__":
    unittest.main()
