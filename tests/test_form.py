"""The form of the package's files: the rules L1 to L28 that a walk through the files can see."""

import ast
import builtins
import os
import re
import unittest

PACKAGE = "spareplank"
FOLDER = os.path.join(os.path.dirname(os.path.dirname(os.path.abspath(__file__))), PACKAGE)

STATEMENTS = (ast.Assign, ast.AugAssign, ast.If, ast.While, ast.For, ast.Return, ast.Break, ast.Continue, ast.Pass,
              ast.Raise, ast.Try, ast.Expr, ast.FunctionDef, ast.ClassDef, ast.ImportFrom)
EXPRESSIONS = (ast.BoolOp, ast.BinOp, ast.UnaryOp, ast.Lambda, ast.IfExp, ast.Dict, ast.Set, ast.ListComp, ast.Compare,
               ast.Call, ast.JoinedStr, ast.FormattedValue, ast.Constant, ast.Attribute, ast.Subscript, ast.Name,
               ast.List, ast.Tuple, ast.Slice)
PLAIN_VALUES = (ast.Constant, ast.List, ast.Tuple, ast.Dict, ast.Name, ast.UnaryOp)
DUNDERS = ("__init__", "__eq__", "__repr__", "__str__", "__len__")
BUILTINS = """len range enumerate zip min max sum abs sorted reversed int str bool list tuple dict set frozenset
    isinstance ord repr any all divmod Exception ValueError TypeError KeyError IndexError LookupError
    ZeroDivisionError ArithmeticError OverflowError RuntimeError NotImplementedError AttributeError
    StopIteration""".split()
METHODS = """append clear copy count endswith extend find get index insert isalnum isalpha isdigit islower isspace
    isupper items join keys ljust lower lstrip partition pop remove replace reverse rfind rjust rpartition rsplit
    rstrip setdefault split splitlines startswith strip update upper values zfill bit_length""".split()
UNUSED = """register mro elements open input version_info with_traceback add_note format format_map attrgetter
    breakpoint builtins compile copyright credits delattr dir eval exec exit gc getattr globals hasattr help id
    importlib license locals methodcaller os quit setattr super type vars sys chr print""".split()
WORDS = re.compile(r"\b(type|typing|typing_extensions|enum|Enum|IntEnum|StrEnum|Flag|IntFlag|Generic|Protocol|ABC"
                   r"|ABCMeta|namedtuple|NamedTuple|TypedDict|TYPE_CHECKING|abstractmethod)\b"
                   r"|dataclass|overload|contextmanager")


def file_names():
    return sorted(name for name in os.listdir(FOLDER) if name != "__pycache__")


def read(name):
    with open(os.path.join(FOLDER, name), encoding="utf-8", newline="") as file:
        return file.read()


def trees():
    return {name: ast.parse(read(name)) for name in file_names()}


def is_docstring(node):
    return isinstance(node, ast.Expr) and isinstance(node.value, ast.Constant) and isinstance(node.value.value, str)


def bound_names(tree):
    """Every name that a file binds: defs, parameters, locals."""
    for node in ast.walk(tree):
        if isinstance(node, (ast.FunctionDef, ast.ClassDef)):
            yield node.name, node.lineno
        elif isinstance(node, ast.arg):
            yield node.arg, node.lineno
        elif isinstance(node, ast.Name) and isinstance(node.ctx, ast.Store):
            yield node.id, node.lineno


def class_parts(tree):
    """The methods and the values of a file's classes."""
    classes = [node for node in tree.body if isinstance(node, ast.ClassDef)]
    methods = [node.name for one in classes for node in one.body if isinstance(node, ast.FunctionDef)]
    values = [node.attr for node in ast.walk(tree) if isinstance(node, ast.Attribute)
              and isinstance(node.ctx, ast.Store)]
    return methods, values


class FilesTest(unittest.TestCase):

    def test_names_and_signs(self):
        self.assertIn("__init__.py", file_names())
        for name in file_names():
            with self.subTest(name):
                self.assertRegex(name, r"^[a-z][a-z0-9_]*\.py$|^__init__\.py$|^__main__\.py$")
                text = read(name)
                self.assertRegex(text, r"\A[ -~\n]*\Z")
                self.assertIsNone(WORDS.search(text))

    def test_sizes(self):
        for name, tree in trees().items():
            lines = read(name).split("\n")
            self.assertLessEqual(len(lines), 400, name)
            self.assertLessEqual(max(len(line) for line in lines), 120, name)
            for node in ast.walk(tree):
                if isinstance(node, ast.FunctionDef):
                    self.assertLessEqual(node.end_lineno - node.lineno + 1, 40, (name, node.name))

    def test_imports(self):
        drawn = {}
        for name, tree in trees().items():
            drawn[name] = []
            for node in ast.walk(tree):
                if not isinstance(node, ast.ImportFrom):
                    continue
                where = (name, node.lineno)
                self.assertIn(node, tree.body, where)
                self.assertTrue(node.level == 0 and node.module.startswith(PACKAGE + "."), where)
                source = node.module.split(".", 1)[1] + ".py"
                defined = [one for one, _ in bound_names(trees()[source])]
                self.assertTrue(all(one.name in defined for one in node.names), where)
                drawn[name].append(source)
        self.assertEqual(drawn["__init__.py"], [])
        while drawn:
            free = [name for name in drawn if not any(source in drawn for source in drawn[name])]
            self.assertTrue(free, f"these draw from one another: {sorted(drawn)}")
            drawn = {name: drawn[name] for name in drawn if name not in free}

    def test_top(self):
        for name, tree in trees().items():
            seen = []
            for place, node in enumerate(tree.body):
                where = (name, node.lineno)
                if place == 0:
                    self.assertTrue(is_docstring(node), where)
                elif isinstance(node, ast.Assign):
                    self.assertTrue(all(isinstance(part, PLAIN_VALUES + (ast.expr_context, ast.unaryop))
                                        for part in ast.walk(node.value)), where)
                    seen.append(node.targets[0].id)
                else:
                    self.assertIsInstance(node, (ast.ImportFrom, ast.FunctionDef, ast.ClassDef), where)
                    names = [one.name for one in node.names] if isinstance(node, ast.ImportFrom) else [node.name]
                    seen.extend(names)
            self.assertEqual(len(seen), len(set(seen)), name)


class NodesTest(unittest.TestCase):

    def each(self, *kinds):
        for name, tree in trees().items():
            for node in ast.walk(tree):
                if isinstance(node, kinds):
                    yield (name, getattr(node, "lineno", 0)), node

    def test_statements(self):
        for where, node in self.each(ast.stmt):
            self.assertIsInstance(node, STATEMENTS, where)
            if isinstance(node, ast.Assign):
                self.assertEqual(len(node.targets), 1, where)
            if isinstance(node, (ast.For, ast.While)):
                self.assertEqual(node.orelse, [], where)
            if isinstance(node, ast.Try):
                self.assertEqual(node.finalbody, [], where)
            if isinstance(node, ast.Expr) and not is_docstring(node):
                self.assertIsInstance(node.value, ast.Call, where)

    def test_expressions(self):
        for where, node in self.each(ast.expr):
            self.assertIsInstance(node, EXPRESSIONS, where)
            if isinstance(node, ast.Constant):
                self.assertNotIsInstance(node.value, (float, complex, bytes), where)
                self.assertFalse(isinstance(node.value, str) and "%" in node.value, where)
            if isinstance(node, ast.BinOp):
                self.assertNotIsInstance(node.op, (ast.Div, ast.MatMult), where)
                self.check_power(where, node)
            if isinstance(node, ast.ListComp):
                self.assertEqual(len(node.generators), 1, where)
                self.assertLessEqual(len(node.generators[0].ifs), 1, where)
            if isinstance(node, ast.FormattedValue):
                self.assertIsInstance(node.value, ast.Name, where)
                self.assertIsNone(node.format_spec, where)
            if isinstance(node, ast.Compare) and any(isinstance(op, (ast.Is, ast.IsNot)) for op in node.ops):
                self.assertTrue(all(isinstance(one, ast.Constant) and one.value in (None, True, False)
                                    for one in node.comparators), where)

    def check_power(self, where, node):
        if isinstance(node.op, ast.Pow):
            self.assertIsInstance(node.right, ast.Constant, where)
            self.assertTrue(0 <= node.right.value <= 64, where)

    def test_functions(self):
        for where, node in self.each(ast.FunctionDef):
            given = node.args
            self.assertEqual((node.decorator_list, given.vararg, given.kwarg, given.kwonlyargs, given.posonlyargs),
                             ([], None, None, [], []), where)
            self.assertTrue(all(isinstance(one, ast.Constant) for one in given.defaults), where)
            annotations = [one.annotation for one in given.args] + [node.returns]
            self.assertEqual(set(annotations), {None}, where)

    def test_classes(self):
        for where, node in self.each(ast.ClassDef):
            self.assertLessEqual(len(node.bases), 1, where)
            self.assertEqual((node.decorator_list, node.keywords), ([], []), where)
            for part in node.body:
                self.assertTrue(is_docstring(part) or isinstance(part, ast.FunctionDef), where)
            names = [part.name for part in node.body if isinstance(part, ast.FunctionDef)]
            self.assertEqual(len(names), len(set(names)), where)

    def test_no_name_is_a_method_and_a_value(self):
        methods, values = [], []
        for tree in trees().values():
            parts = class_parts(tree)
            methods.extend(parts[0])
            values.extend(parts[1])
        self.assertEqual(set(methods) & set(values), set())

    def test_names(self):
        for name, tree in trees().items():
            tops = [node.name for node in tree.body if isinstance(node, (ast.FunctionDef, ast.ClassDef))]
            own = [part for one in tree.body if isinstance(one, ast.ClassDef) for part in one.body]
            for word, line in bound_names(tree):
                if word not in DUNDERS:
                    self.assertRegex(word, r"^[A-Za-z][A-Za-z0-9_]*$", (name, line))
                    self.assertNotIn(word, UNUSED, (name, line))
                    is_method = any(isinstance(part, ast.FunctionDef) and part.name == word for part in own)
                    self.assertTrue(is_method or not hasattr(builtins, word), (name, line, word))
            self.assertFalse([word for word in tops if hasattr(builtins, word)], name)

    def test_pythons_own_names(self):
        for where, node in self.each(ast.Name):
            if hasattr(builtins, node.id):
                self.assertIn(node.id, BUILTINS, where)

    def test_methods_called(self):
        parts = [class_parts(tree) for tree in trees().values()]
        own = [word for methods, _ in parts for word in methods] + list(DUNDERS)
        values = [word for _, words in parts for word in words]
        for where, node in self.each(ast.Attribute):
            self.assertIn(node.attr, own + values + METHODS, where)

    def test_locals_are_called_like_no_class_or_import(self):
        for name, tree in trees().items():
            taken = [node.name for node in tree.body if isinstance(node, ast.ClassDef)]
            for node in tree.body:
                if isinstance(node, ast.ImportFrom):
                    taken.extend(one.name for one in node.names)
            for node in ast.walk(tree):
                word = node.arg if isinstance(node, ast.arg) else getattr(node, "id", None)
                if isinstance(node, ast.arg) or isinstance(getattr(node, "ctx", None), ast.Store):
                    self.assertNotIn(word, taken, (name, node.lineno))

    def test_keywords(self):
        allowed = {"sorted": ("key", "reverse"), "min": ("key", "default"), "max": ("key", "default"),
                   "sum": ("start",), "enumerate": ("start",), "zip": ("strict",)}
        for where, node in self.each(ast.Call):
            if node.keywords:
                self.assertTrue(isinstance(node.func, ast.Name), where)
                for word in node.keywords:
                    self.assertIn(word.arg, allowed.get(node.func.id, ()), where)

    def test_walked_at_once(self):
        takers = ("list", "tuple", "dict", "sorted", "sum", "any", "all", "enumerate", "zip", "min", "max")
        for name, tree in trees().items():
            walked = []
            for node in ast.walk(tree):
                if isinstance(node, (ast.For, ast.comprehension)):
                    walked.append(node.iter)
                elif isinstance(node, ast.Call) and getattr(node.func, "id", None) in takers:
                    walked.extend(node.args)
            for node in ast.walk(tree):
                if isinstance(node, ast.Call):
                    word = getattr(node.func, "id", getattr(node.func, "attr", None))
                    if word in ("zip", "enumerate", "reversed", "range", "items", "keys", "values"):
                        self.assertIn(node, walked, (name, node.lineno))

    def test_classes_are_called_or_stand_by_isinstance(self):
        classes = [node.name for _, node in self.each(ast.ClassDef)]
        for name, tree in trees().items():
            fine = []
            for node in ast.walk(tree):
                if isinstance(node, ast.Call):
                    fine.append(node.func)
                    if getattr(node.func, "id", None) == "isinstance":
                        fine.extend(ast.walk(node.args[1]))
                elif isinstance(node, ast.ClassDef):
                    fine.extend(node.bases)
                elif isinstance(node, ast.Attribute) and node.attr == "__init__":
                    fine.append(node.value)
            for node in ast.walk(tree):
                if isinstance(node, ast.Name) and node.id in classes:
                    self.assertIn(node, fine, (name, node.lineno))

    def test_errors_taken_by_name(self):
        for where, node in self.each(ast.ExceptHandler):
            self.assertIsNotNone(node.type, where)
            taken = node.type.elts if isinstance(node.type, ast.Tuple) else [node.type]
            self.assertFalse([one for one in taken if one.id in ("Exception", "TypeError")], where)
        for where, node in self.each(ast.Raise):
            self.assertIsInstance(node.exc, ast.Call, where)


if __name__ == "__main__":
    unittest.main()
