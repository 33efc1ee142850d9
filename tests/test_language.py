"""The package's files keep to the part of Python that the program is written in, as far as a walk over them can see."""

import ast
import pathlib
import re
import unittest

PACKAGE = pathlib.Path(__file__).resolve().parent.parent / "cellpaint"

STATEMENTS = (ast.Assign, ast.AugAssign, ast.If, ast.While, ast.For, ast.Return, ast.Break, ast.Continue, ast.Pass,
              ast.Raise, ast.Try, ast.Expr, ast.FunctionDef, ast.ClassDef, ast.ImportFrom)
EXPRESSIONS = (ast.Constant, ast.List, ast.Tuple, ast.Dict, ast.Set, ast.BinOp, ast.UnaryOp, ast.BoolOp, ast.Compare,
               ast.IfExp, ast.Call, ast.Attribute, ast.Subscript, ast.Slice, ast.ListComp, ast.JoinedStr,
               ast.FormattedValue, ast.Name, ast.Lambda)
BUILT_IN = set("""len range enumerate zip min max sum abs sorted reversed int str bool list tuple dict set frozenset
    isinstance ord repr any all divmod Exception ValueError TypeError KeyError IndexError LookupError ZeroDivisionError
    ArithmeticError OverflowError RuntimeError NotImplementedError AttributeError StopIteration""".split())
METHODS = set("""append clear copy count endswith extend find get index insert isalnum isalpha isdigit islower isspace
    isupper items join keys ljust lower lstrip partition pop remove replace reverse rfind rjust rpartition rsplit
    rstrip setdefault split splitlines startswith strip update upper values zfill bit_length""".split())
DUNDERS = {"__init__", "__eq__", "__repr__", "__str__", "__len__", "__all__", "__version__"}
WALKED = {"zip", "enumerate", "reversed", "range"}
BANNED_WORDS = re.compile(r"\b(type|typing|typing_extensions|enum|Enum|IntEnum|StrEnum|Flag|IntFlag|Generic|Protocol|ABC"
                          r"|ABCMeta|namedtuple|NamedTuple|TypedDict|TYPE_CHECKING|abstractmethod)\b"
                          r"|dataclass|overload|contextmanager")


def python_files():
    return sorted(PACKAGE.glob("*.py"))


def trees():
    return [(path, ast.parse(path.read_text(encoding="ascii"))) for path in python_files()]


def bound_names(tree):
    """Give every name that is bound somewhere in a file."""
    names = set()
    for node in ast.walk(tree):
        if isinstance(node, ast.Name) and isinstance(node.ctx, ast.Store):
            names.add(node.id)
        elif isinstance(node, (ast.FunctionDef, ast.ClassDef)):
            names.add(node.name)
        elif isinstance(node, ast.arg):
            names.add(node.arg)
        elif isinstance(node, ast.alias):
            names.add(node.asname or node.name)
        elif isinstance(node, ast.ExceptHandler) and node.name:
            names.add(node.name)
    return names


def methods_and_values(tree):
    """Give the methods of a file's classes, and the values that are given to objects."""
    methods = {node.name for owner in ast.walk(tree) if isinstance(owner, ast.ClassDef)
               for node in owner.body if isinstance(node, ast.FunctionDef)}
    values = {node.attr for node in ast.walk(tree) if isinstance(node, ast.Attribute) and isinstance(node.ctx, ast.Store)}
    return methods, values


class Files(unittest.TestCase):
    def test_only_python_files_with_plain_names(self):
        found = [path for path in PACKAGE.iterdir() if path.name != "__pycache__"]
        self.assertIn(PACKAGE / "__init__.py", found)
        for path in found:
            self.assertRegex(path.name, r"\A[a-z0-9_]+\.py\Z")

    def test_sizes_and_signs(self):
        for path in python_files():
            words = path.read_text(encoding="utf-8")
            self.assertRegex(words, r"\A[ -~\n]*\Z", path)
            self.assertLessEqual(len(words.splitlines()), 400, path)
            self.assertLessEqual(max([len(line) for line in words.splitlines()] + [0]), 120, path)
            self.assertIsNone(BANNED_WORDS.search(words), path)

    def test_functions_are_short(self):
        for path, tree in trees():
            for node in ast.walk(tree):
                if isinstance(node, ast.FunctionDef):
                    self.assertLessEqual(node.end_lineno - node.lineno + 1, 40, (path, node.name))


class Forms(unittest.TestCase):
    def nodes(self):
        return [(path, node) for path, tree in trees() for node in ast.walk(tree)]

    def check_all(self, wrong):
        """No node of any file is wrong."""
        found = ["%s:%d" % (path.name, getattr(node, "lineno", 0)) for path, node in self.nodes() if wrong(node)]
        self.assertEqual(found, [])

    def test_statements_and_expressions(self):
        self.check_all(lambda node: isinstance(node, ast.stmt) and not isinstance(node, STATEMENTS))
        self.check_all(lambda node: isinstance(node, ast.expr) and not isinstance(node, EXPRESSIONS))

    def test_statements_in_their_form(self):
        self.check_all(lambda node: isinstance(node, (ast.For, ast.While)) and node.orelse)
        self.check_all(lambda node: isinstance(node, ast.Assign) and len(node.targets) != 1)
        self.check_all(lambda node: isinstance(node, ast.Expr) and not isinstance(node.value, (ast.Call, ast.Constant)))
        self.check_all(lambda node: isinstance(node, ast.Try) and node.finalbody)
        self.check_all(lambda node: isinstance(node, ast.ExceptHandler) and node.type is None)

    def test_functions_and_classes_in_their_form(self):
        self.check_all(lambda node: isinstance(node, (ast.FunctionDef, ast.ClassDef)) and node.decorator_list)
        self.check_all(lambda node: isinstance(node, ast.arguments) and (node.vararg or node.kwarg or node.kwonlyargs
                                                                         or node.posonlyargs))
        self.check_all(lambda node: isinstance(node, ast.ClassDef) and len(node.bases) > 1)

    def test_comprehensions_have_one_walk(self):
        self.check_all(lambda node: isinstance(node, ast.ListComp)
                       and (len(node.generators) != 1 or len(node.generators[0].ifs) > 1))

    def test_values(self):
        self.check_all(lambda node: isinstance(node, ast.Constant) and isinstance(node.value, (float, complex, bytes)))
        self.check_all(lambda node: isinstance(node, ast.BinOp) and isinstance(node.op, (ast.Div, ast.MatMult)))
        self.check_all(lambda node: isinstance(node, ast.Constant) and isinstance(node.value, str) and "%" in node.value)

    def test_is_stands_beside_none_true_and_false_alone(self):
        def wrong(node):
            return (isinstance(node, ast.Compare) and any(isinstance(op, (ast.Is, ast.IsNot)) for op in node.ops)
                    and not any(isinstance(side, ast.Constant) and side.value in (None, True, False)
                                for side in [node.left] + node.comparators))
        self.check_all(wrong)

    def test_imports_are_the_packages_own(self):
        self.check_all(lambda node: isinstance(node, ast.ImportFrom)
                       and node.module != "__future__"
                       and (node.level != 0 or not node.module.startswith("cellpaint.")
                            or any(alias.name == "*" for alias in node.names)))

    def test_what_is_walked_is_not_kept(self):
        self.check_all(lambda node: isinstance(node, (ast.Assign, ast.Return)) and isinstance(node.value, ast.Call)
                       and isinstance(node.value.func, ast.Name) and node.value.func.id in WALKED)


    def test_sets_are_not_kept_or_walked(self):
        def is_set(node):
            if isinstance(node, ast.BinOp):
                return is_set(node.left) and is_set(node.right)
            return isinstance(node, ast.Call) and isinstance(node.func, ast.Name) and node.func.id in ("set", "frozenset")

        def asked_in(node):
            """Give what stands in this node in a place where a set may be made."""
            if isinstance(node, ast.Compare):
                return [node.left] + node.comparators
            if isinstance(node, ast.Call) and isinstance(node.func, ast.Name) and node.func.id in ("len", "sorted"):
                return node.args
            return [node.left, node.right] if is_set(node) and isinstance(node, ast.BinOp) else []

        for path, tree in trees():
            allowed = [id(part) for node in ast.walk(tree) for part in asked_in(node)]
            for node in ast.walk(tree):
                self.assertTrue(not is_set(node) or id(node) in allowed, (path, getattr(node, "lineno", 0)))

    def test_methods_are_called_where_they_stand(self):
        methods = set(METHODS)
        for path, tree in trees():
            methods |= methods_and_values(tree)[0]
        for path, tree in trees():
            called = [id(node.func) for node in ast.walk(tree) if isinstance(node, ast.Call)]
            keys = [id(node.value) for node in ast.walk(tree) if isinstance(node, ast.keyword) and node.arg == "key"]
            for node in ast.walk(tree):
                if isinstance(node, ast.Attribute) and node.attr in methods:
                    self.assertIn(id(node), called + keys, (path, node.lineno))


class TopOfFiles(unittest.TestCase):
    def test_only_what_may_stand_there(self):
        for path, tree in trees():
            for place, node in enumerate(tree.body):
                if isinstance(node, ast.Expr):
                    self.assertTrue(place == 0 and isinstance(node.value, ast.Constant), path)
                else:
                    self.assertIsInstance(node, (ast.Assign, ast.FunctionDef, ast.ClassDef, ast.ImportFrom), path)

    def test_each_name_is_bound_once(self):
        for path, tree in trees():
            names = []
            for node in tree.body:
                if isinstance(node, ast.Assign):
                    names.append(node.targets[0].id)
                elif isinstance(node, (ast.FunctionDef, ast.ClassDef)):
                    names.append(node.name)
                elif isinstance(node, ast.ImportFrom):
                    names.extend([alias.asname or alias.name for alias in node.names])
            self.assertEqual(len(names), len(set(names)), path)

    def test_no_two_files_draw_from_one_another(self):
        drawn = {"cellpaint." + path.stem: {node.module for node in ast.walk(tree) if isinstance(node, ast.ImportFrom)}
                 for path, tree in trees()}
        while drawn:
            free = [name for name, needed in drawn.items() if not needed & set(drawn)]
            self.assertNotEqual(free, [])
            for name in free:
                drawn.pop(name)


class Names(unittest.TestCase):
    def test_plain_names(self):
        for path, tree in trees():
            for name in bound_names(tree) - DUNDERS:
                self.assertRegex(name, r"\A[A-Za-z][A-Za-z0-9_]*\Z", path)

    def test_no_other_names_of_pythons_own(self):
        for path, tree in trees():
            read = {node.id for node in ast.walk(tree) if isinstance(node, ast.Name) and isinstance(node.ctx, ast.Load)}
            self.assertEqual(read - bound_names(tree) - BUILT_IN, set(), path)

    def test_no_name_of_pythons_own_has_another_meaning(self):
        own = set(dir(__builtins__)) if not isinstance(__builtins__, dict) else set(__builtins__)
        for path, tree in trees():
            # A method may be called like one of Python's own names; a parameter, a local or a function may not.
            methods = {node.name for owner in ast.walk(tree) if isinstance(owner, ast.ClassDef)
                       for node in owner.body if isinstance(node, ast.FunctionDef)}
            self.assertEqual((bound_names(tree) - methods) & own, set(), path)

    def test_no_local_is_called_like_a_class_or_an_import(self):
        for path, tree in trees():
            taken = {node.name for node in tree.body if isinstance(node, ast.ClassDef)}
            for node in tree.body:
                if isinstance(node, ast.ImportFrom):
                    taken.update([alias.asname or alias.name for alias in node.names])
            local = {node.arg for node in ast.walk(tree) if isinstance(node, ast.arg)}
            local.update([node.id for node in ast.walk(tree)
                          if isinstance(node, ast.Name) and isinstance(node.ctx, ast.Store)])
            self.assertEqual(local & taken, set(), path)

    def test_methods_are_own_ones_or_listed_ones(self):
        methods, values = set(), set()
        for path, tree in trees():
            found = methods_and_values(tree)
            methods |= found[0]
            values |= found[1]
        self.assertEqual(methods & values, set())
        for path, tree in trees():
            used = {node.attr for node in ast.walk(tree) if isinstance(node, ast.Attribute)}
            self.assertEqual(used - methods - values - METHODS, set(), path)

    def test_own_methods_and_values_are_not_pythons(self):
        taken = {name for value in ("", 0, [], {}, set(), b"") for name in dir(value)}
        for path, tree in trees():
            methods, values = methods_and_values(tree)
            self.assertEqual((methods - DUNDERS - METHODS - {"add", "discard"}) & taken, set(), path)
            self.assertEqual(values & taken - set("count index title find get join lower upper split strip copy add"
                                                  .split()), set(), path)
