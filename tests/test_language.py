"""The package's own files keep to the rules L1 to L28, as far as a walk over them can see."""

import ast
import builtins
import pathlib
import re
import unittest

PACKAGE = pathlib.Path(__file__).resolve().parent.parent / "staymark"
FILES = sorted(PACKAGE.rglob("*.py"))

ALLOWED_NODES = (
    ast.Module, ast.ImportFrom, ast.alias, ast.FunctionDef, ast.ClassDef, ast.arguments, ast.arg, ast.Lambda,
    ast.Assign, ast.AugAssign, ast.If, ast.While, ast.For, ast.Return, ast.Break, ast.Continue, ast.Pass, ast.Raise,
    ast.Try, ast.ExceptHandler, ast.Expr, ast.Call, ast.Constant, ast.List, ast.Tuple, ast.Dict, ast.Set, ast.Name,
    ast.Attribute, ast.Subscript, ast.Slice, ast.BinOp, ast.UnaryOp, ast.BoolOp, ast.Compare, ast.IfExp,
    ast.ListComp, ast.comprehension, ast.JoinedStr, ast.FormattedValue, ast.keyword, ast.expr_context, ast.operator,
    ast.unaryop, ast.boolop, ast.cmpop,
)
OWN_NAMES = """len range enumerate zip min max sum abs sorted reversed int str bool list tuple dict set frozenset
isinstance ord repr any all divmod Exception ValueError TypeError KeyError IndexError LookupError ZeroDivisionError
ArithmeticError OverflowError RuntimeError NotImplementedError AttributeError StopIteration""".split()
OWN_METHODS = """append clear copy count endswith extend find get index insert isalnum isalpha isdigit islower isspace
isupper items join keys ljust lower lstrip partition pop remove replace reverse rfind rjust rpartition rsplit rstrip
setdefault split splitlines startswith strip update upper values zfill bit_length""".split()
SPECIAL_METHODS = ["__init__", "__eq__", "__repr__", "__str__", "__len__"]
WORDS_NOWHERE = """type typing typing_extensions enum Enum IntEnum StrEnum Flag IntFlag Generic Protocol ABC ABCMeta
namedtuple NamedTuple TypedDict TYPE_CHECKING abstractmethod""".split()
PARTS_NOWHERE = ["dataclass", "overload", "contextmanager"]
NAMES_NOWHERE = """register mro elements open input version_info with_traceback add_note format format_map""".split()
NAMES_NOT_BOUND = """attrgetter breakpoint builtins compile copyright credits delattr dir eval exec exit gc getattr
globals hasattr help id importlib license locals methodcaller os quit setattr super type vars sys""".split()
CHANGING = ["append", "clear", "extend", "insert", "pop", "remove", "reverse", "setdefault", "update"]
WALKED = ["zip", "enumerate", "reversed", "range"]
WALKERS = ["list", "tuple", "dict", "sorted", "sum", "any", "all", "enumerate", "zip"]
KEYWORDS = {"sorted": ["key", "reverse"], "min": ["key", "default"], "max": ["key", "default"], "sum": ["start"],
            "enumerate": ["start"], "zip": ["strict"]}
FILE_NAMES_NOWHERE = ["test", "tests", "testing", "site", "conftest", "sitecustomize", "usercustomize"]


def trees():
    return [(path, path.read_text(encoding="utf-8"), ast.parse(path.read_text(encoding="utf-8"))) for path in FILES]


def defs_of(tree):
    return [node for node in ast.walk(tree) if isinstance(node, ast.FunctionDef)]


def parents_of(tree):
    return {child: node for node in ast.walk(tree) for child in ast.iter_child_nodes(node)}


def called_name(node):
    """The name that is called here, or None."""
    return node.func.id if isinstance(node, ast.Call) and isinstance(node.func, ast.Name) else None


def walked_at_once(node, parent):
    """L23: behind an in, within one of a few calls, or in the join of a written text."""
    if isinstance(parent, (ast.For, ast.comprehension)) and parent.iter is node:
        return True
    if not isinstance(parent, ast.Call) or parent.args[:1] != [node]:
        return called_name(parent) == "zip"
    if isinstance(parent.func, ast.Attribute):
        return parent.func.attr == "join" and isinstance(parent.func.value, ast.Constant)
    return called_name(parent) in WALKERS or called_name(parent) in ("min", "max") and len(parent.args) == 1


def bound_names(tree):
    """Each name that a file gives to a thing, with its line."""
    for node in ast.walk(tree):
        if isinstance(node, (ast.FunctionDef, ast.ClassDef)):
            yield node.name, node.lineno
        elif isinstance(node, ast.arg):
            yield node.arg, node.lineno
        elif isinstance(node, ast.Name) and isinstance(node.ctx, ast.Store):
            yield node.id, node.lineno
        elif isinstance(node, ast.Attribute) and isinstance(node.ctx, ast.Store):
            yield node.attr, node.lineno


def top_names(tree):
    names = []
    for node in tree.body:
        if isinstance(node, (ast.FunctionDef, ast.ClassDef)):
            names.append(node.name)
        elif isinstance(node, ast.Assign):
            names += [target.id for target in node.targets]
        elif isinstance(node, ast.ImportFrom):
            names += [alias.name for alias in node.names]
    return names


class Language(unittest.TestCase):
    def refuse(self, path, line, rule, what):
        self.fail(f"{path.name}:{line}: {rule}: {what}")

    def test_there_are_files(self):
        self.assertIn("__init__.py", [path.name for path in FILES])

    def test_files_of_the_folder(self):
        for path in PACKAGE.rglob("*"):
            if "__pycache__" in path.parts:
                continue
            with self.subTest(file=path.name):
                self.assertTrue(path.is_file() and re.fullmatch(r"[a-z0-9_]+\.py", path.name))
                self.assertNotIn(path.stem, FILE_NAMES_NOWHERE + WORDS_NOWHERE + dir(builtins))
                self.assertFalse(path.stem.startswith("test_"))

    def test_signs_and_sizes(self):
        for path, text, tree in trees():
            with self.subTest(file=path.name):
                self.assertTrue(all(sign == "\n" or " " <= sign <= "~" for sign in text))
                rows = text.split("\n")
                self.assertLessEqual(len(rows), 400)
                self.assertLessEqual(max(len(row) for row in rows), 120)
                for node in defs_of(tree):
                    self.assertLessEqual(node.end_lineno - node.lineno + 1, 40, node.name)

    def test_words(self):
        for path, text, tree in trees():
            with self.subTest(file=path.name):
                for word in WORDS_NOWHERE:
                    self.assertIsNone(re.search(rf"\b{word}\b", text), word)
                for part in PARTS_NOWHERE:
                    self.assertNotIn(part, text)

    def test_nodes(self):
        for path, text, tree in trees():
            with self.subTest(file=path.name):
                for node in ast.walk(tree):
                    if not isinstance(node, ALLOWED_NODES) or isinstance(node, ast.Div):
                        self.refuse(path, getattr(node, "lineno", 0), "L6, L7", ast.dump(node))
                    if isinstance(node, ast.Constant) and isinstance(node.value, (float, bytes, complex)):
                        self.refuse(path, node.lineno, "L7", node.value)
                    if isinstance(node, ast.Constant) and isinstance(node.value, str) and "%" in node.value:
                        self.refuse(path, node.lineno, "L27", node.value)
                    if isinstance(node, ast.Expr) and not self.may_stand_by_itself(node, tree):
                        self.refuse(path, node.lineno, "L6", ast.dump(node))

    def may_stand_by_itself(self, node, tree):
        return isinstance(node.value, ast.Call) or node == tree.body[0]

    def test_top_of_files(self):
        allowed = (ast.Expr, ast.ImportFrom, ast.FunctionDef, ast.ClassDef, ast.Assign)
        for path, text, tree in trees():
            with self.subTest(file=path.name):
                self.assertTrue(all(isinstance(node, allowed) for node in tree.body))
                self.assertIsNotNone(ast.get_docstring(tree))
                names = top_names(tree)
                self.assertEqual(sorted(set(names)), sorted(names))

    def test_imports(self):
        drawn = {}
        for path, text, tree in trees():
            with self.subTest(file=path.name):
                drawn[path.stem] = []
                for node in ast.walk(tree):
                    if isinstance(node, ast.ImportFrom):
                        self.assertIn(node, tree.body)
                        self.assertEqual(node.level, 0)
                        self.assertRegex(node.module, r"\Astaymark\.[a-z0-9_]+\Z")
                        self.assertTrue(all(alias.asname is None and alias.name != "*" for alias in node.names))
                        drawn[path.stem].append(node.module.partition(".")[2])
        self.assertEqual(drawn["__init__"], [])
        for name in drawn:
            self.assertNotIn(name, self.drawn_in_steps(drawn, name))

    def drawn_in_steps(self, drawn, name):
        found, waiting = set(), list(drawn[name])
        while waiting:
            other = waiting.pop()
            if other not in found:
                found.add(other)
                waiting += drawn[other]
        return found

    def test_imports_are_from_the_file_that_defines(self):
        defined = {}
        for path, text, tree in trees():
            defined[path.stem] = [node.name for node in tree.body if isinstance(node, (ast.FunctionDef, ast.ClassDef))]
            defined[path.stem] += [node.targets[0].id for node in tree.body if isinstance(node, ast.Assign)]
        for path, text, tree in trees():
            with self.subTest(file=path.name):
                for node in tree.body:
                    if isinstance(node, ast.ImportFrom):
                        for alias in node.names:
                            self.assertIn(alias.name, defined[node.module.partition(".")[2]])

    def test_imports_are_used(self):
        for path, text, tree in trees():
            with self.subTest(file=path.name):
                used = [node.id for node in ast.walk(tree) if isinstance(node, ast.Name)]
                for node in tree.body:
                    if isinstance(node, ast.ImportFrom):
                        self.assertTrue(all(alias.name in used for alias in node.names))

    def test_functions(self):
        for path, text, tree in trees():
            with self.subTest(file=path.name):
                for node in defs_of(tree):
                    self.assertEqual(node.decorator_list, [])
                    self.assertEqual((node.args.vararg, node.args.kwarg), (None, None))
                    self.assertEqual((node.args.kwonlyargs, node.args.posonlyargs), ([], []))

    def test_classes(self):
        for path, text, tree in trees():
            with self.subTest(file=path.name):
                for node in ast.walk(tree):
                    if isinstance(node, ast.ClassDef):
                        self.assertIn(node, tree.body)
                        self.assertEqual((node.decorator_list, node.keywords), ([], []))
                        self.assertLessEqual(len(node.bases), 1)
                        self.assertTrue(all(isinstance(part, (ast.FunctionDef, ast.Pass)) for part in node.body))

    def test_assignments_have_one_target(self):
        for path, text, tree in trees():
            with self.subTest(file=path.name):
                for node in ast.walk(tree):
                    if isinstance(node, ast.Assign):
                        self.assertEqual(len(node.targets), 1)
                        self.assertNotIsInstance(node.targets[0], (ast.Tuple, ast.List))
                    if isinstance(node, (ast.For, ast.While)):
                        self.assertEqual(node.orelse, [])
                    if isinstance(node, ast.Try):
                        self.assertEqual(node.finalbody, [])

    def test_names(self):
        for path, text, tree in trees():
            with self.subTest(file=path.name):
                outside = [alias.name for node in tree.body if isinstance(node, ast.ImportFrom) for alias in node.names]
                outside += [node.name for node in tree.body if isinstance(node, ast.ClassDef)]
                classes = [node.name for node in tree.body if isinstance(node, ast.ClassDef)]
                for name, line in bound_names(tree):
                    if name in SPECIAL_METHODS:
                        continue
                    if not re.fullmatch(r"[A-Za-z][A-Za-z0-9_]*", name) or name in NAMES_NOWHERE:
                        self.refuse(path, line, "L12, L17", name)
                    if name in dir(builtins) or (name in outside and name not in classes):
                        self.refuse(path, line, "L15", name)

    def test_names_that_are_not_used(self):
        for path, text, tree in trees():
            for node in ast.walk(tree):
                if isinstance(node, ast.Name) and node.id in NAMES_NOT_BOUND:
                    self.refuse(path, node.lineno, "L17", node.id)
                if isinstance(node, ast.arg) and node.arg in NAMES_NOT_BOUND:
                    self.refuse(path, node.lineno, "L17", node.arg)
                if isinstance(node, ast.Attribute) and node.attr in NAMES_NOWHERE:
                    self.refuse(path, node.lineno, "L17", node.attr)

    def test_lists_and_dicts_of_the_top_are_only_read(self):
        kept = [node.targets[0].id for path, text, tree in trees() for node in tree.body
                if isinstance(node, ast.Assign) and isinstance(node.value, (ast.List, ast.Dict))]
        for path, text, tree in trees():
            parents = parents_of(tree)
            for node in ast.walk(tree):
                if isinstance(node, ast.Name) and node.id in kept and isinstance(node.ctx, ast.Load):
                    parent = parents[node]
                    stored = isinstance(parent, ast.Subscript) and not isinstance(parent.ctx, ast.Load)
                    changed = isinstance(parent, ast.Attribute) and parent.attr in CHANGING
                    handed = isinstance(parent, (ast.Return, ast.Assign, ast.List, ast.Tuple, ast.Dict))
                    if stored or changed or handed:
                        self.refuse(path, node.lineno, "L15", node.id)

    def test_python_s_own_names(self):
        for path, text, tree in trees():
            with self.subTest(file=path.name):
                for node in ast.walk(tree):
                    if isinstance(node, ast.Name) and node.id in dir(builtins) and node.id not in OWN_NAMES:
                        self.refuse(path, node.lineno, "L8", node.id)
                    if isinstance(node, ast.Name) and node.id.startswith("__"):
                        self.refuse(path, node.lineno, "L8", node.id)

    def test_methods(self):
        own = [node.name for path, text, tree in trees() for part in tree.body if isinstance(part, ast.ClassDef)
               for node in part.body if isinstance(node, ast.FunctionDef)]
        for path, text, tree in trees():
            with self.subTest(file=path.name):
                for node in ast.walk(tree):
                    if isinstance(node, ast.Call) and isinstance(node.func, ast.Attribute):
                        if node.func.attr not in OWN_METHODS + own:
                            self.refuse(path, node.lineno, "L25", node.func.attr)

    def test_comprehensions(self):
        for path, text, tree in trees():
            with self.subTest(file=path.name):
                for node in ast.walk(tree):
                    if isinstance(node, ast.ListComp):
                        self.assertEqual(len(node.generators), 1)
                        self.assertLessEqual(len(node.generators[0].ifs), 1)

    def test_is_stands_beside_plain_values(self):
        for path, text, tree in trees():
            with self.subTest(file=path.name):
                for node in ast.walk(tree):
                    if isinstance(node, ast.Compare) and any(isinstance(op, (ast.Is, ast.IsNot)) for op in node.ops):
                        sides = [node.left] + node.comparators
                        plain = [side for side in sides if isinstance(side, ast.Constant)]
                        self.assertTrue(any(side.value is None or isinstance(side.value, bool) for side in plain))

    def test_f_strings_are_plain(self):
        for path, text, tree in trees():
            with self.subTest(file=path.name):
                for node in ast.walk(tree):
                    if isinstance(node, ast.FormattedValue):
                        self.assertIsInstance(node.value, ast.Name)
                        self.assertIsNone(node.format_spec)
                        self.assertIn(node.conversion, (-1, ord("r")))

    def test_errors_that_are_taken(self):
        for path, text, tree in trees():
            with self.subTest(file=path.name):
                for node in ast.walk(tree):
                    if isinstance(node, ast.ExceptHandler):
                        self.assertIsInstance(node.type, (ast.Name, ast.Tuple))
                        names = [part.id for part in ast.walk(node.type) if isinstance(part, ast.Name)]
                        self.assertFalse({"Exception", "TypeError"} & set(names))

    def test_sets_are_not_kept(self):
        for path, text, tree in trees():
            with self.subTest(file=path.name):
                for node in ast.walk(tree):
                    value = node.value if isinstance(node, (ast.Assign, ast.Return)) else None
                    called = isinstance(value, ast.Call) and isinstance(value.func, ast.Name) and value.func.id
                    if isinstance(value, ast.Set) or called in ("set", "frozenset"):
                        self.refuse(path, node.lineno, "L24", "a set is kept")

    def test_sets_stand_where_they_may(self):
        for path, text, tree in trees():
            parents = parents_of(tree)
            for node in ast.walk(tree):
                if called_name(node) in ("set", "frozenset") or isinstance(node, ast.Set):
                    parent = parents[node]
                    while isinstance(parent, ast.BinOp):
                        parent = parents[parent]
                    within = called_name(parent) in ("sorted", "len") and not parent.keywords
                    if not within and not isinstance(parent, ast.Compare):
                        self.refuse(path, node.lineno, "L24", ast.dump(parent))

    def test_walked_at_once(self):
        for path, text, tree in trees():
            parents = parents_of(tree)
            for node in ast.walk(tree):
                method = node.func.attr if isinstance(node, ast.Call) and isinstance(node.func, ast.Attribute) else None
                if called_name(node) in WALKED or method in ("items", "keys", "values"):
                    if not walked_at_once(node, parents[node]):
                        self.refuse(path, node.lineno, "L23", ast.dump(parents[node]))

    def test_python_s_own_are_called(self):
        for path, text, tree in trees():
            parents = parents_of(tree)
            for node in ast.walk(tree):
                if isinstance(node, ast.Name) and node.id in OWN_NAMES and not node.id[0].isupper():
                    parent = parents[node]
                    asked = parents[parent] if isinstance(parent, ast.Tuple) else parent
                    called = isinstance(parent, ast.Call) and parent.func is node
                    if not called and called_name(asked) != "isinstance" and not isinstance(parent, ast.keyword):
                        self.refuse(path, node.lineno, "L22", node.id)

    def test_keywords(self):
        for path, text, tree in trees():
            for node in ast.walk(tree):
                if isinstance(node, ast.Call):
                    for keyword in node.keywords:
                        if keyword.arg not in KEYWORDS.get(called_name(node), []):
                            self.refuse(path, node.lineno, "L22", keyword.arg)

    def test_methods_are_called_where_they_stand(self):
        methods = [node.name for path, text, tree in trees() for part in tree.body if isinstance(part, ast.ClassDef)
                   for node in part.body if isinstance(node, ast.FunctionDef)]
        values = [node.attr for path, text, tree in trees() for node in ast.walk(tree)
                  if isinstance(node, ast.Attribute) and isinstance(node.ctx, ast.Store)]
        self.assertEqual(set(methods) & set(values), set())
        for path, text, tree in trees():
            parents = parents_of(tree)
            for node in ast.walk(tree):
                if isinstance(node, ast.Attribute) and node.attr in OWN_METHODS + methods:
                    parent = parents[node]
                    called = isinstance(parent, ast.Call) and parent.func is node
                    if not called and not isinstance(parent, ast.keyword):
                        self.refuse(path, node.lineno, "L25", node.attr)

    def test_own_methods_and_values(self):
        taken = {name for kind in (str, int, list, tuple, dict, set, bytes) for name in dir(kind)}
        values = "count index title find get join lower upper split strip copy add".split()
        for path, text, tree in trees():
            for part in [node for node in tree.body if isinstance(node, ast.ClassDef)]:
                names = [node.name for node in part.body if isinstance(node, ast.FunctionDef)]
                self.assertEqual(len(set(names)), len(names))
                for name in names:
                    if name in taken and name not in SPECIAL_METHODS + OWN_METHODS + ["add", "discard"]:
                        self.refuse(path, part.lineno, "L26", name)
            for node in ast.walk(tree):
                if isinstance(node, ast.Attribute) and isinstance(node.ctx, ast.Store):
                    self.assertIsInstance(node.value, ast.Name)
                    if node.attr in taken and node.attr not in values:
                        self.refuse(path, node.lineno, "L26", node.attr)

    def test_errors_are_made_on_the_spot(self):
        for path, text, tree in trees():
            for node in ast.walk(tree):
                if isinstance(node, ast.Raise) and not isinstance(node.exc, ast.Call):
                    self.refuse(path, node.lineno, "L19", ast.dump(node))

    def test_init_gives_back_nothing_and_nothing_is_annotated(self):
        for path, text, tree in trees():
            for node in defs_of(tree):
                if node.returns is not None or any(part.annotation is not None for part in node.args.args):
                    self.refuse(path, node.lineno, "L21", node.name)
                if node.name == "__init__" and any(isinstance(part, ast.Return) for part in ast.walk(node)):
                    self.refuse(path, node.lineno, "L28", node.name)

    def test_powers_and_escapes(self):
        for path, text, tree in trees():
            self.assertIsNone(re.search(r"\\[^nt\\'\"]", text))
            for node in ast.walk(tree):
                if isinstance(node, ast.BinOp) and isinstance(node.op, ast.Pow):
                    if not isinstance(node.right, ast.Constant) or not 0 <= node.right.value <= 64:
                        self.refuse(path, node.lineno, "L27", ast.dump(node))


if __name__ == "__main__":
    unittest.main()
