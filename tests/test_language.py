"""The rules of the language that a look at the source can tell; the others are read by people."""

import ast
import builtins
import pathlib
import re
import unittest

PACKAGE = pathlib.Path(__file__).resolve().parent.parent / "tworows"
NODES = {path: ast.parse(path.read_text(encoding="ascii")) for path in sorted(PACKAGE.rglob("*.py"))}
BUILTINS = set(
    "len range enumerate zip min max sum abs sorted reversed int str bool bytes list tuple dict set frozenset isinstance "
    "ord repr any all divmod pow getattr hasattr setattr type map iter next super property staticmethod classmethod "
    "Exception ValueError TypeError KeyError IndexError LookupError ZeroDivisionError ArithmeticError OverflowError "
    "RuntimeError NotImplementedError AttributeError StopIteration NotImplemented".split()
)
BARRED = (
    "typing", "enum", "Enum", "Flag", "Generic", "Protocol", "ABC", "ABCMeta", "namedtuple", "NamedTuple",
    "TypedDict", "abstractmethod", "dataclass", "overload", "contextmanager", "register", "mro", "elements", "law",
)
CHANGING = ("append", "clear", "extend", "insert", "pop", "remove", "reverse", "setdefault", "update", "add", "discard", "sort")
DEED_CLASSES = ("Store", "Desk")
DEED_SIGNS = ("__setitem__", "__ior__")
LIBRARY = {"heapq", "math", "itertools", "collections", "__future__"}


def nodes_of(kinds):
    """Each node of some kinds in the package, with its file."""
    return [(path, node) for path, tree in NODES.items() for node in ast.walk(tree) if isinstance(node, kinds)]


def changed_names(function):
    """The names of what a function changes: items that it assigns, and lists and dicts that it calls a method of."""
    for node in ast.walk(function):
        if isinstance(node, ast.Subscript) and not isinstance(node.ctx, ast.Load):
            yield node.value.id if isinstance(node.value, ast.Name) else ast.unparse(node.value)
        if isinstance(node, ast.Call) and isinstance(node.func, ast.Attribute) and node.func.attr in CHANGING:
            yield ast.unparse(node.func.value)


def assigned_values(function, name):
    """What a function assigns to a name."""
    for node in ast.walk(function):
        if isinstance(node, ast.Assign) and name in [ast.unparse(target) for target in node.targets]:
            yield node.value


def is_created(value):
    """Whether an expression makes a new list or dict."""
    if isinstance(value, ast.Call) and isinstance(value.func, ast.Name):
        return value.func.id in ("list", "dict", "sorted")
    if isinstance(value, ast.BinOp):
        return is_created(value.left) or is_created(value.right)
    return isinstance(value, (ast.List, ast.Dict, ast.ListComp, ast.DictComp))


class FilesTest(unittest.TestCase):
    def test_the_folder_holds_plain_files_alone(self):
        for path in PACKAGE.rglob("*"):
            if "__pycache__" not in path.parts:
                self.assertTrue(path.is_dir() or re.fullmatch(r"[a-z][a-z0-9_]*\.py|__init__\.py", path.name), path)

    def test_sizes_and_signs(self):
        for path in NODES:
            text = path.read_bytes().decode("ascii")
            self.assertLessEqual(len(text.splitlines()), 399, path)
            self.assertTrue(set(text) <= {chr(code) for code in range(32, 127)} | {"\n"}, path)
            for line in text.splitlines():
                self.assertLessEqual(len(line), 120, path)

    def test_functions_have_at_most_40_lines(self):
        for path, node in nodes_of(ast.FunctionDef):
            self.assertLessEqual(node.end_lineno - node.lineno + 1, 40, (path, node.name))


class RulesTest(unittest.TestCase):
    def test_module_level(self):
        allowed = (ast.ImportFrom, ast.FunctionDef, ast.ClassDef, ast.Assign)
        for path, tree in NODES.items():
            for at, node in enumerate(tree.body):
                docstring = at == 0 and isinstance(node, ast.Expr) and isinstance(node.value, ast.Constant)
                self.assertTrue(docstring or isinstance(node, allowed), (path, node.lineno))

    def test_imports_name_the_file_that_defines(self):
        for path, node in nodes_of((ast.Import, ast.ImportFrom)):
            self.assertIsInstance(node, ast.ImportFrom, path)
            if node.module in LIBRARY:
                continue
            origin = PACKAGE.parent / (node.module.replace(".", "/") + ".py")
            self.assertIn(origin, NODES, path)
            defined = [thing.name for thing in NODES[origin].body if hasattr(thing, "name")]
            defined += [target.id for thing in NODES[origin].body if isinstance(thing, ast.Assign) for target in thing.targets]
            for alias in node.names:
                self.assertIsNone(alias.asname, path)
                self.assertIn(alias.name, defined, path)

    def test_builtins(self):
        for path, node in nodes_of(ast.Name):
            if node.id in vars(builtins):
                self.assertIn(node.id, BUILTINS, (path, node.lineno))
                self.assertIsInstance(node.ctx, ast.Load, (path, node.lineno))

    def test_no_name_of_a_builtin_is_given_another_meaning(self):
        for path, tree in NODES.items():
            given = [node.name for node in tree.body if isinstance(node, (ast.FunctionDef, ast.ClassDef))]
            given += [node.arg for node in ast.walk(tree) if isinstance(node, ast.arg)]
            for name in given:
                self.assertNotIn(name, vars(builtins), path)

    def test_barred_words(self):
        for path, node in nodes_of((ast.Name, ast.Attribute, ast.arg)):
            word = getattr(node, "id", None) or getattr(node, "attr", None) or getattr(node, "arg", None)
            self.assertNotIn(word, BARRED, (path, node.lineno))

    def test_strings_and_numbers(self):
        for path, node in nodes_of(ast.Constant):
            self.assertIsInstance(node.value, (int, str, bytes, type(None)), (path, node.lineno))
            if isinstance(node.value, str):
                self.assertNotIn("%", node.value, (path, node.lineno))

    def test_what_is_not_in_the_language(self):
        self.assertEqual(nodes_of((ast.AsyncFunctionDef, ast.Await, ast.Div)), [])
        for path, tree in NODES.items():
            for node in tree.body:
                self.assertEqual(getattr(node, "decorator_list", []), [], (path, node.lineno))

    def test_functions_change_only_what_they_created(self):
        # Operators may change nothing else, nor may what they call, and they reach most of the package.
        for path, function in nodes_of(ast.FunctionDef):
            for name in changed_names(function):
                given = [arg.arg for arg in ast.walk(function.args) if isinstance(arg, ast.arg)]
                self.assertNotIn(name, given, (path, function.name))
                values = list(assigned_values(function, name))
                self.assertTrue(values and all(is_created(value) for value in values), (path, function.name, name))

    def test_attributes_are_assigned_in_init_or_by_deeds_alone(self):
        for path, owner in nodes_of((ast.ClassDef, ast.Module)):
            for function in owner.body:
                if isinstance(function, ast.FunctionDef):
                    for node in ast.walk(function):
                        if isinstance(node, ast.Attribute) and isinstance(node.ctx, ast.Store):
                            deed = owner.__dict__.get("name") in DEED_CLASSES and (function.name in DEED_SIGNS or function.name[:2] != "__")
                            self.assertTrue(deed or (function.name, node.value.id) == ("__init__", "self"), (path, function.name))
                            if function.name == "twin":
                                self.assertEqual(node.value.id, "other")
                            else:
                                self.assertEqual(node.value.id, "self")

    def test_questions_call_no_deed(self):
        # An operator changes nothing, nor does what it calls; these are told from deeds by their names.
        deeds = {"put", "drop", "change", "strike", "together", "twin", "add_rule", "drop_rule", "undo", "redo", "watch", "do_line"}
        for path, function in nodes_of(ast.FunctionDef):
            for node in ast.walk(function):
                if isinstance(node, ast.Call) and isinstance(node.func, ast.Attribute) and node.func.attr in deeds:
                    self.assertEqual((path.name, function.name), ("desk.py", "do_line"))

    def test_a_class_that_is_indexed_refuses_to_be_iterated_over(self):
        for path, owner in nodes_of(ast.ClassDef):
            names = [node.name for node in owner.body if isinstance(node, ast.FunctionDef)]
            self.assertEqual("__getitem__" in names, "__iter__" in names, (path, owner.name))
        for path in NODES:
            text = path.read_text(encoding="ascii")
            for word in ("(type)", "Meta", "metaclass="):
                self.assertNotIn(word, text, path)

    def test_sorted_min_and_max_take_numbers_or_strings(self):
        # A class has an order, so they are given what plainly has no objects of it.
        for path, node in nodes_of(ast.Call):
            if isinstance(node.func, ast.Name) and node.func.id in ("sorted", "min", "max"):
                first = node.args[0]
                plain = isinstance(first, ast.Constant) or (isinstance(first, ast.Call) and first.func.id in ("set", "len", "int"))
                numbers = isinstance(first, ast.ListComp) and isinstance(first.elt, ast.Call) and first.elt.func.id in ("int", "len", "str")
                self.assertTrue(plain or numbers, (path, node.lineno))

    def test_lists_and_dicts_at_module_level_are_read_alone(self):
        for path, tree in NODES.items():
            tables = [node.targets[0].id for node in tree.body if isinstance(node, ast.Assign) and isinstance(node.value, (ast.List, ast.Dict))]
            for node in ast.walk(tree):
                allowed = []
                if isinstance(node, ast.Subscript):
                    allowed = [node.value]
                elif isinstance(node, ast.Compare):
                    allowed = node.comparators
                elif isinstance(node, ast.Assign) and node in tree.body:
                    allowed = node.targets
                for child in ast.iter_child_nodes(node):
                    if isinstance(child, ast.Name) and child.id in tables:
                        self.assertIn(child, allowed, (path, child.lineno))

    def test_no_attribute_has_the_name_of_a_method(self):
        methods = {node.name for _, owner in nodes_of(ast.ClassDef) for node in owner.body if isinstance(node, ast.FunctionDef)}
        for path, node in nodes_of(ast.Attribute):
            if isinstance(node.ctx, ast.Store):
                self.assertNotIn(node.attr, methods, path)

    def test_imports_lead_into_no_circle(self):
        imports = {path.stem: [] for path in NODES}
        for path, node in nodes_of(ast.ImportFrom):
            if node.module not in LIBRARY:
                imports[path.stem].append(node.module.split(".")[1])
        while imports:
            free = [name for name, others in imports.items() if not any(other in imports for other in others)]
            self.assertTrue(free, imports)
            for name in free:
                del imports[name]

    def test_is_stands_beside_none_true_and_false(self):
        for path, node in nodes_of(ast.Compare):
            for op, right in zip(node.ops, node.comparators):
                if isinstance(op, (ast.Is, ast.IsNot)):
                    self.assertIsInstance(right, ast.Constant, (path, node.lineno))
                    self.assertTrue(right.value is None or isinstance(right.value, bool), (path, node.lineno))


if __name__ == "__main__":
    unittest.main()
