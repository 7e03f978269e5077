"""Some rules of LANGUAGE.md that a program can check; the others are for the reader."""

import ast
import builtins
import pathlib
import re
import unittest

PACKAGE = pathlib.Path(__file__).parent.parent / "ownfill"
BUILTINS = set("""
len range enumerate zip min max sum abs sorted reversed int str bool bytes list tuple dict set frozenset isinstance
ord repr any all divmod iter next property classmethod staticmethod super Exception ValueError TypeError KeyError
IndexError LookupError ZeroDivisionError ArithmeticError OverflowError RuntimeError NotImplementedError
AttributeError StopIteration NotImplemented object
""".split())
WORDS = re.compile(r"\b(type|typing|typing_extensions|enum|Enum|IntEnum|StrEnum|Flag|IntFlag|Generic|Protocol|ABC"
                   r"|ABCMeta|namedtuple|NamedTuple|TypedDict|TYPE_CHECKING|abstractmethod)\b"
                   r"|dataclass|overload|contextmanager")
NEVER = set("register mro elements open input law version_info with_traceback add_note format format_map".split())
METHODS = set("""
append clear copy count endswith extend find get index insert isalnum isalpha isdigit islower isspace isupper items
join keys ljust lower lstrip partition pop remove replace reverse rfind rjust rpartition rsplit rstrip setdefault
split splitlines startswith strip update upper values zfill bit_length add discard sort
""".split())
CHANGING = set("append clear extend insert pop remove reverse setdefault update sort add discard".split())
WHOLE_LISTS = {"sum", "min", "max", "sorted", "any", "all"}
ON_THE_SPOT = {"zip", "enumerate", "reversed", "range"}
NOT_CHANGING = {"__init__", "__setitem__", "__enter__", "__exit__", "__call__", "__iter__"}
STATEMENTS_BARRED = (ast.Global, ast.AsyncFunctionDef, ast.AsyncFor, ast.AsyncWith, ast.Await, ast.Div, ast.Import)


def sources():
    for path in sorted(PACKAGE.glob("**/*.py")):
        text = path.read_text(encoding="utf-8")
        yield path.name, text, ast.parse(text)


def bound_names(tree):
    """The names that a file gives to functions, classes, parameters and variables."""
    for node in ast.walk(tree):
        if isinstance(node, (ast.FunctionDef, ast.ClassDef)):
            yield node.name
        elif isinstance(node, ast.arg):
            yield node.arg
        elif isinstance(node, ast.Name) and isinstance(node.ctx, ast.Store):
            yield node.id


def is_special(name):
    return name.startswith("__") and name.endswith("__")


def functions_of(trees):
    """All functions and methods of the package by their names; a class has the name of its __init__, too."""
    found = {}
    for tree in trees:
        for node in ast.walk(tree):
            if isinstance(node, ast.FunctionDef):
                found.setdefault(node.name, []).append(node)
            if isinstance(node, ast.ClassDef):
                found.setdefault(node.name, []).extend(
                    row for row in node.body if isinstance(row, ast.FunctionDef) and row.name == "__init__")
    return found


def called_names(function):
    for node in ast.walk(function):
        if isinstance(node, ast.Call):
            yield node.func.id if isinstance(node.func, ast.Name) else node.func.attr
        elif isinstance(node, ast.Attribute):
            yield node.attr


def made_here(function):
    """The local variables that a function assigns nothing but what it makes itself."""
    made, other = set(), {arg.arg for arg in ast.walk(function) if isinstance(arg, ast.arg)}
    for node in ast.walk(function):
        if isinstance(node, ast.Assign):
            for target in node.targets:
                if isinstance(target, ast.Name):
                    own = isinstance(node.value, (ast.List, ast.Dict, ast.ListComp, ast.Constant)) or (
                        isinstance(node.value, ast.Call) and isinstance(node.value.func, ast.Name)
                        and node.value.func.id in ("list", "dict", "sorted"))
                    (made if own else other).add(target.id)
    return made - other


def changes_of(function):
    """The expressions that a function changes: lists, items and attributes."""
    for node in ast.walk(function):
        if isinstance(node, ast.Call) and isinstance(node.func, ast.Attribute) and node.func.attr in CHANGING:
            yield node.func.value
        elif isinstance(node, (ast.Subscript, ast.Attribute)) and isinstance(node.ctx, (ast.Store, ast.Del)):
            yield node.value
        elif isinstance(node, ast.AugAssign):
            yield node.target


def quiet_functions(trees):
    """The functions that operators, properties, __eq__ and the like call, directly or not (L5), and these."""
    known = functions_of(trees)
    waiting = [node for nodes in known.values() for node in nodes
               if (is_special(node.name) and node.name not in NOT_CHANGING)
               or "property" in [mark.id for mark in node.decorator_list if isinstance(mark, ast.Name)]]
    found = []
    while waiting:
        now = waiting.pop()
        if now not in found:
            found.append(now)
            waiting.extend(node for name in called_names(now) for node in known.get(name, []))
    return found


class Language(unittest.TestCase):
    def test_files(self):
        for path in PACKAGE.iterdir():
            if path.name != "__pycache__":
                self.assertRegex(path.name, r"^[a-z_0-9]+\.py$")

    def test_characters_and_sizes(self):
        for name, text, tree in sources():
            self.assertRegex(text, r"\A[ -~\n]*\Z", name)
            rows = text.splitlines()
            self.assertLessEqual(len(rows), 399, name)
            self.assertLessEqual(max(map(len, rows)), 120, name)
            for node in ast.walk(tree):
                if isinstance(node, ast.FunctionDef):
                    self.assertLessEqual(node.end_lineno - node.lineno + 1, 40, (name, node.name))

    def test_words(self):
        for name, text, tree in sources():
            self.assertIsNone(WORDS.search(text), name)
            for node in ast.walk(tree):
                if isinstance(node, ast.Constant) and isinstance(node.value, str):
                    self.assertNotIn("%", node.value, (name, node.lineno))

    def test_statements(self):
        for name, _, tree in sources():
            for node in ast.walk(tree):
                self.assertNotIsInstance(node, STATEMENTS_BARRED, (name, getattr(node, "lineno", 0)))
                self.assertFalse(isinstance(node, ast.Constant) and isinstance(node.value, (float, complex)), name)

    def test_imports(self):
        for name, _, tree in sources():
            for node in ast.walk(tree):
                if isinstance(node, ast.ImportFrom):
                    self.assertIn(node, tree.body)
                    self.assertEqual(node.level, 0)
                    self.assertRegex(node.module, r"^ownfill\.[a-z_]+$", name)

    def test_names(self):
        for name, _, tree in sources():
            for bound in bound_names(tree):
                self.assertTrue(not bound.startswith("_") or is_special(bound), (name, bound))
                self.assertNotIn(bound, NEVER, name)
                self.assertFalse(hasattr(builtins, bound) and not is_special(bound), (name, bound))
            for node in ast.walk(tree):
                if isinstance(node, ast.Name) and hasattr(builtins, node.id):
                    self.assertIn(node.id, BUILTINS, (name, node.lineno))
                if isinstance(node, ast.Attribute):
                    self.assertNotIn(node.attr, NEVER, (name, node.lineno))

    def test_operators_and_what_they_call_change_nothing(self):
        trees = [tree for _, _, tree in sources()]
        quiet = quiet_functions(trees)
        self.assertGreater(len(quiet), 20)
        for function in quiet:
            mine = made_here(function)
            parameters = {arg.arg for arg in ast.walk(function) if isinstance(arg, ast.arg)}
            for changed in changes_of(function):
                self.assertIsInstance(changed, ast.Name, (function.name, changed.lineno))
                if not (function.name == "__init__" and changed.id == "self"):
                    self.assertIn(changed.id, mine, (function.name, changed.lineno))
            for node in ast.walk(function):
                if isinstance(node, ast.Call) and isinstance(node.func, ast.Name):
                    self.assertNotIn(node.func.id, parameters - {"cls"}, function.name)

    def test_tables_are_only_read(self):
        for name, _, tree in sources():
            tables = {node.targets[0].id for node in tree.body if isinstance(node, ast.Assign)}
            for changed in changes_of(tree):
                self.assertFalse(isinstance(changed, ast.Name) and changed.id in tables, (name, changed.lineno))

    def test_methods(self):
        own = functions_of([tree for _, _, tree in sources()])
        for name, _, tree in sources():
            for node in ast.walk(tree):
                if isinstance(node, ast.Call) and isinstance(node.func, ast.Attribute):
                    self.assertTrue(node.func.attr in METHODS or node.func.attr in own, (name, node.lineno))

    def test_calls_of_builtins(self):
        for name, _, tree in sources():
            stored = [node.value for node in ast.walk(tree) if isinstance(node, (ast.Assign, ast.Return))]
            for node in ast.walk(tree):
                if isinstance(node, ast.Call) and isinstance(node.func, ast.Name):
                    if node.func.id in WHOLE_LISTS:
                        self.assertNotIsInstance(node.args[0], ast.GeneratorExp, (name, node.lineno))
                    if node.func.id in ON_THE_SPOT:
                        self.assertNotIn(node, stored, (name, node.lineno))
                if isinstance(node, ast.Call):
                    for argument in node.args:
                        self.assertFalse(isinstance(argument, ast.Starred)
                                         and not isinstance(argument.value, (ast.Name, ast.Attribute)), name)

    def test_names_of_classes_and_imports_mean_nothing_else(self):
        for name, _, tree in sources():
            taken = {row.name for row in tree.body if isinstance(row, ast.ClassDef)}
            taken |= {alias.name for row in tree.body if isinstance(row, ast.ImportFrom) for alias in row.names}
            inner = [node for row in tree.body if isinstance(row, (ast.FunctionDef, ast.ClassDef))
                     for node in ast.walk(row)]
            for node in inner:
                if isinstance(node, ast.arg):
                    self.assertNotIn(node.arg, taken, name)
                if isinstance(node, ast.Name) and isinstance(node.ctx, ast.Store):
                    self.assertNotIn(node.id, taken, name)

    def test_imports_name_the_file_that_defines_them_and_lead_in_no_circle(self):
        trees = {name.removesuffix(".py"): tree for name, _, tree in sources()}
        homes = {name: {row.name for row in tree.body if isinstance(row, (ast.FunctionDef, ast.ClassDef))}
                 | {row.targets[0].id for row in tree.body if isinstance(row, ast.Assign)}
                 for name, tree in trees.items()}
        needs = {}
        for name, tree in trees.items():
            needs[name] = set()
            for row in tree.body:
                if isinstance(row, ast.ImportFrom):
                    home = row.module.removeprefix("ownfill.")
                    needs[name].add(home)
                    for alias in row.names:
                        self.assertIn(alias.name, homes[home], name)
                        self.assertIsNone(alias.asname)
        while needs:
            free = [name for name in needs if not needs[name] & set(needs)]
            self.assertTrue(free, sorted(needs))
            for name in free:
                del needs[name]

    def test_imported_names_are_used(self):
        for name, _, tree in sources():
            used = {node.id for node in ast.walk(tree) if isinstance(node, ast.Name)}
            for row in tree.body:
                if isinstance(row, ast.ImportFrom):
                    for alias in row.names:
                        self.assertIn(alias.name, used, name)

    def test_what_special_methods_return(self):
        for name, _, tree in sources():
            for node in ast.walk(tree):
                if isinstance(node, ast.FunctionDef) and node.name in ("__len__", "__repr__", "__str__"):
                    self.assertIsInstance(node.body[-1], ast.Return)
                    for row in ast.walk(node):
                        if isinstance(row, ast.Return):
                            calls = ("len",) if node.name == "__len__" else ("str", "repr")
                            told = isinstance(row.value, ast.Call) and row.value.func.id in calls
                            self.assertTrue(told or isinstance(row.value, ast.JoinedStr), (name, node.name))

    def test_generators_have_names_of_their_own(self):
        known = functions_of([tree for _, _, tree in sources()])
        for name, nodes in known.items():
            if any(isinstance(row, (ast.Yield, ast.YieldFrom)) for node in nodes for row in ast.walk(node)):
                self.assertEqual(len(nodes), 1, name)

    def test_is_only_with_none_and_truths(self):
        for name, _, tree in sources():
            for node in ast.walk(tree):
                if isinstance(node, ast.Compare) and isinstance(node.ops[0], (ast.Is, ast.IsNot)):
                    self.assertTrue(isinstance(node.comparators[0], ast.Constant)
                                    and node.comparators[0].value in (None, True, False), (name, node.lineno))

    def test_no_name_is_a_method_and_an_attribute(self):
        methods, attributes = set(), set()
        for _, _, tree in sources():
            for node in ast.walk(tree):
                if isinstance(node, ast.ClassDef):
                    methods |= {row.name for row in node.body if isinstance(row, ast.FunctionDef)}
                elif isinstance(node, ast.Attribute) and isinstance(node.ctx, ast.Store):
                    attributes.add(node.attr)
        self.assertEqual(methods & attributes, set())


if __name__ == "__main__":
    unittest.main()
