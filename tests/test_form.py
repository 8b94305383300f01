"""The form of the package: those rules of LANGUAGE.md, by their numbers, that a look at the code can check."""

import ast
import builtins
import re
import unittest
from pathlib import Path

PACKAGE = Path(__file__).resolve().parent.parent / "latelink"
LIBRARY = ("heapq", "math", "itertools", "collections")
BUILTINS = """len range enumerate zip min max sum abs sorted reversed int str bool bytes list tuple dict set frozenset
    isinstance ord repr any all divmod pow getattr hasattr setattr iter next map Exception ValueError TypeError KeyError
    IndexError LookupError ZeroDivisionError ArithmeticError OverflowError RuntimeError NotImplementedError
    AttributeError StopIteration NotImplemented staticmethod classmethod property super""".split()
METHODS = """append clear copy count endswith extend find get index insert isalnum isalpha isdigit islower isspace
    isupper items join keys ljust lower lstrip partition pop remove replace reverse rfind rjust rpartition rsplit rstrip
    setdefault split splitlines startswith strip update upper values zfill bit_length title capitalize swapcase casefold
    center expandtabs removeprefix removesuffix rindex isascii isdecimal isnumeric istitle isidentifier isprintable
    sort format add discard __init__""".split()
DUNDERS = """__init__ __eq__ __repr__ __str__ __len__ __enter__ __exit__ __call__ __iter__ __contains__ __lt__ __le__
    __gt__ __ge__ __ne__ __bool__ __getitem__ __setitem__ __all__ __version__""".split()
BARRED = (ast.Global, ast.AsyncFunctionDef, ast.AsyncFor, ast.AsyncWith, ast.Await, ast.Import, ast.Div, ast.MatMult)
BARRED_NAME = r"_(wall|pe_|dcw_|enum_|cm_|twin_re_|lay_|law_|stub_|sre|cold|tupleg|outside|record|written|member_)"
DECORATOR = r"^(staticmethod|classmethod|property|\w+\.setter)$"
TAKE_LISTS = ("any", "all", "min", "max", "sum", "sorted")
FUNCTIONS = (ast.FunctionDef, ast.Lambda)


def files():
    return sorted(path for path in PACKAGE.rglob("*") if "__pycache__" not in path.parts)


def trees():
    return [(path.name, ast.parse(path.read_text())) for path in files()]


def nodes():
    return [(name, node) for name, tree in trees() for node in ast.walk(tree)]


def bound_names(node):
    """The names that this one node binds."""
    if isinstance(node, (ast.FunctionDef, ast.ClassDef)):
        return [node.name]
    if isinstance(node, ast.arg):
        return [node.arg]
    if isinstance(node, ast.Name) and isinstance(node.ctx, ast.Store):
        return [node.id]
    if isinstance(node, ast.alias):
        return [node.asname or node.name]
    return []


def defined_in(tree):
    """The names that a module binds by its own statements, imports left out."""
    found = []
    for statement in tree.body:
        if isinstance(statement, (ast.FunctionDef, ast.ClassDef)):
            found.append(statement.name)
        elif isinstance(statement, ast.Assign):
            found.append(statement.targets[0].id)
    return found


class FormTest(unittest.TestCase):
    def test_files(self):
        """L1, L14."""
        for path in files():
            self.assertTrue(path.is_file(), path)
            self.assertRegex(path.name, r"^([a-z][a-z0-9_]*|__init__)\.py$")
            self.assertNotIn(path.stem, dir(builtins))

    def test_characters_and_sizes(self):
        """L10, L14."""
        for path in files():
            text = path.read_bytes().decode("ascii")
            self.assertIsNone(re.search(r"[^ -~\n]", text), path)
            lines = text.split("\n")
            self.assertLessEqual(len(lines), 400, path)
            self.assertLessEqual(max(len(line) for line in lines), 120, path)
        for name, node in nodes():
            if isinstance(node, ast.FunctionDef):
                self.assertLessEqual(node.end_lineno - node.lineno + 1, 40, (name, node.name))

    def test_module_level(self):
        """L2, L3, L15, L16."""
        for name, tree in trees():
            body = tree.body[1:] if ast.get_docstring(tree) else tree.body
            for node in body:
                self.assertIsInstance(node, (ast.ImportFrom, ast.FunctionDef, ast.ClassDef, ast.Assign), name)
                if isinstance(node, ast.Assign):
                    ast.literal_eval(node.value)
                    self.assertEqual([type(target) for target in node.targets], [ast.Name], name)
            imported = [alias.name for node in body if isinstance(node, ast.ImportFrom) for alias in node.names]
            every = imported + defined_in(tree)
            self.assertEqual(len(every), len(set(every)), name)
            kinds = [isinstance(node, ast.ImportFrom) for node in body]
            self.assertEqual(kinds, sorted(kinds, reverse=True), name + ": imports stand at the top")

    def test_imports_name_the_file_that_defines(self):
        """L2, L16."""
        defined = {"latelink." + name[:-3]: defined_in(tree) for name, tree in trees()}
        for name, node in nodes():
            if isinstance(node, ast.ImportFrom) and node.module not in LIBRARY:
                self.assertEqual(node.level, 0, name)
                for alias in node.names:
                    self.assertIn(alias.name, defined[node.module], name)

    def test_no_circle_of_imports(self):
        """L16."""
        left = {}
        for name, tree in trees():
            left["latelink." + name[:-3]] = {node.module for node in tree.body if isinstance(node, ast.ImportFrom)}
        while left:
            free = [name for name, wanted in left.items() if not wanted & set(left)]
            self.assertTrue(free, left)
            left = {name: wanted for name, wanted in left.items() if name not in free}

    def test_statements_and_signs(self):
        """L6, L7, L20, L27."""
        for name, node in nodes():
            self.assertNotIsInstance(node, BARRED, name)
            if isinstance(node, ast.Constant):
                self.assertNotIsInstance(node.value, (float, complex), name)
                if isinstance(node.value, str):
                    self.assertNotIn("%", node.value, name)
            if isinstance(node, ast.Compare) and any(isinstance(sign, (ast.Is, ast.IsNot)) for sign in node.ops):
                self.assertTrue(all(isinstance(side, ast.Constant) for side in node.comparators), (name, node.lineno))

    def test_decorators(self):
        """L4, L5."""
        for name, tree in trees():
            methods = [part for node in tree.body if isinstance(node, ast.ClassDef) for part in node.body]
            for node in ast.walk(tree):
                if isinstance(node, ast.FunctionDef) and node.decorator_list:
                    self.assertIn(node, methods, name)
                    self.assertEqual(len(node.decorator_list), 1, name)
                    self.assertRegex(ast.unparse(node.decorator_list[0]), DECORATOR)
                if isinstance(node, ast.ClassDef):
                    self.assertEqual(node.decorator_list, [], name)

    def test_names(self):
        """L8, L12, L15, L17."""
        for name, node in nodes():
            for bound in bound_names(node):
                if bound not in DUNDERS:
                    self.assertRegex(bound, r"^(_|_?[A-Za-z][A-Za-z0-9_]*)$", name)
                    self.assertIsNone(re.match(BARRED_NAME, bound), name)
            # A method may have the name of a builtin that L8 does not list; none of the package needs one.
            self.assertFalse(set(bound_names(node)) & set(dir(builtins)), name)
            if isinstance(node, ast.Name) and isinstance(node.ctx, ast.Load) and hasattr(builtins, node.id):
                self.assertIn(node.id, BUILTINS, (name, node.lineno))

    def test_local_names_are_not_those_of_classes_and_imports(self):
        """L15."""
        for name, tree in trees():
            taken = {alias.name for node in tree.body if isinstance(node, ast.ImportFrom) for alias in node.names}
            taken |= {node.name for node in tree.body if isinstance(node, ast.ClassDef)}
            for function in ast.walk(tree):
                if isinstance(function, FUNCTIONS):
                    inside = [node for node in ast.walk(function) if node is not function]
                    self.assertFalse(taken & {bound for node in inside for bound in bound_names(node)}, name)

    def test_methods_are_own_or_listed(self):
        """L25, L26."""
        own = {node.name for _, node in nodes() if isinstance(node, ast.FunctionDef)}
        for name, node in nodes():
            if isinstance(node, ast.Call) and isinstance(node.func, ast.Attribute):
                self.assertIn(node.func.attr, own | set(METHODS), (name, node.lineno))

    def test_generator_expressions(self):
        """L7: the class Links has an __eq__."""
        for name, node in nodes():
            if isinstance(node, ast.Call) and isinstance(node.func, ast.Name) and node.func.id in TAKE_LISTS:
                for value in node.args:
                    self.assertNotIsInstance(value, ast.GeneratorExp, (name, node.lineno))

    def test_powers_and_stars(self):
        """L7, L27: a power has a literal exponent, and behind a star in a call stands no call."""
        for name, node in nodes():
            if isinstance(node, ast.BinOp) and isinstance(node.op, ast.Pow):
                self.assertIsInstance(node.right, ast.Constant, (name, node.lineno))
            if isinstance(node, ast.Call):
                starred = [value.value for value in node.args if isinstance(value, ast.Starred)]
                starred += [keyword.value for keyword in node.keywords if keyword.arg is None]
                for value in starred:
                    self.assertIsInstance(value, (ast.Name, ast.Attribute), (name, node.lineno))

    def test_raises_and_handlers(self):
        """L19."""
        for name, node in nodes():
            if isinstance(node, ast.Raise) and node.exc is not None:
                self.assertIsInstance(node.exc, ast.Call, (name, node.lineno))
                self.assertIsInstance(node.exc.func, ast.Name, (name, node.lineno))
            if isinstance(node, ast.ExceptHandler):
                self.assertIsNotNone(node.type, (name, node.lineno))
                self.assertNotIn(ast.unparse(node.type), ("Exception", "TypeError", "ArithmeticError", "RuntimeError"))

    def test_a_generator_has_a_name_of_its_own(self):
        """L23."""
        functions = [node for _, node in nodes() if isinstance(node, ast.FunctionDef)]
        for function in functions:
            if any(isinstance(node, (ast.Yield, ast.YieldFrom)) for node in ast.walk(function)):
                self.assertEqual([other.name for other in functions].count(function.name), 1, function.name)

    def test_no_name_is_a_method_and_an_attribute(self):
        """L18."""
        for name, node in nodes():
            if isinstance(node, ast.ClassDef):
                methods = {part.name for part in node.body if isinstance(part, ast.FunctionDef)}
                stored = {part.attr for part in ast.walk(node) if isinstance(part, ast.Attribute)
                          and isinstance(part.ctx, ast.Store) and ast.unparse(part.value) == "self"}
                setters = {part.name for part in node.body if isinstance(part, ast.FunctionDef) and part.decorator_list}
                self.assertFalse((methods - setters) & stored, (name, node.name))


if __name__ == "__main__":
    unittest.main()
