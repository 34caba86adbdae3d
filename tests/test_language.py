"""The rules of ../shared/LANGUAGE.md that can be read off the files with little effort, by their numbers."""

import ast
import builtins
import re
from pathlib import Path
from unittest import TestCase

FOLDER = Path(__file__).resolve().parent.parent / "crossmeans"
FILES = sorted(FOLDER.rglob("*.py"))
TREES = {path.stem: ast.parse(path.read_text()) for path in FILES}
LIBRARY = {"math": {"gcd", "lcm", "isqrt", "comb", "perm", "factorial"},
           "itertools": {"product", "combinations", "permutations", "chain", "accumulate", "pairwise", "islice",
                         "zip_longest"},
           "heapq": {"heappush", "heappop", "heapify", "heapreplace", "heappushpop"},
           "collections": {"defaultdict"}}
BUILTINS = set("""len range enumerate zip min max sum abs sorted reversed int str bool list tuple dict set
    isinstance ord repr any all divmod pow iter next map property staticmethod classmethod super
    Exception ValueError TypeError KeyError IndexError LookupError ZeroDivisionError
    ArithmeticError OverflowError RuntimeError NotImplementedError AttributeError StopIteration NotImplemented""".split())
METHODS = set("""append clear copy count endswith extend find get index insert isalnum isalpha isdigit islower isspace
    isupper items join keys ljust lower lstrip partition pop remove replace reverse rfind rjust rpartition rsplit
    rstrip setdefault split splitlines startswith strip update upper values zfill bit_length add discard title
    capitalize swapcase casefold center expandtabs removeprefix removesuffix rindex isascii isdecimal isnumeric
    istitle isidentifier isprintable""".split())
DUNDERS = {f"__{name}__" for name in """init eq repr str len enter exit call iter lt le gt ge ne add sub mul floordiv
    mod pow and or xor lshift rshift neg pos invert abs bool contains getitem setitem""".split()}
DECORATORS = re.compile(r"(property|staticmethod|classmethod|\w+\.setter)$")
NEVER = {"register", "mro", "elements", "open", "input", "law", "version_info", "with_traceback", "add_note", "type",
         "typing", "enum", "namedtuple", "global", "eval", "exec", "vars", "id", "sys", "os"}


def defined_in(tree):
    """The names that the file itself defines at module level."""
    names = {node.name for node in tree.body if isinstance(node, (ast.FunctionDef, ast.ClassDef))}
    return names | {target.id for node in tree.body if isinstance(node, ast.Assign) for target in node.targets}


def imported_in(tree):
    return [(node.module, alias) for node in tree.body if isinstance(node, ast.ImportFrom) for alias in node.names]


def bound_names(function):
    """The parameters and local variables of a function, those of comprehensions included."""
    names = {node.arg for node in ast.walk(function) if isinstance(node, ast.arg)}
    return names | {node.id for node in ast.walk(function)
                    if isinstance(node, ast.Name) and isinstance(node.ctx, (ast.Store, ast.Del))}


def nodes_of(*kinds):
    return [(name, node) for name, tree in TREES.items() for node in ast.walk(tree) if isinstance(node, kinds)]


CLASS_VALUES = {target.id for _, made in nodes_of(ast.ClassDef) for node in made.body if isinstance(node, ast.Assign)
                for target in node.targets}


class FileTest(TestCase):
    def test_files(self):
        left = [path for path in FOLDER.rglob("*") if "__pycache__" not in path.parts and path not in FILES]
        self.assertEqual(left, [], "L1")
        for path in FILES:
            self.assertRegex(path.name, r"^[a-z_][a-z0-9_]*\.py$", "L14")

    def test_sizes_and_characters(self):
        for path in FILES:
            text = path.read_text()
            self.assertLessEqual(len(text.splitlines()), 399, f"L10 {path}")
            for at, line in enumerate(text.split("\n"), 1):
                self.assertLessEqual(len(line), 120, f"L10 {path}:{at}")
                self.assertRegex(line, r"^[ -~]*$", f"L14 {path}:{at}")

    def test_functions_are_short(self):
        for name, node in nodes_of(ast.FunctionDef):
            self.assertLessEqual(node.end_lineno - node.lineno + 1, 40, f"L10 {name}:{node.lineno}")

    def test_module_level(self):
        for name, tree in TREES.items():
            for node in tree.body:
                docstring = isinstance(node, ast.Expr) and isinstance(node.value, ast.Constant)
                plain = isinstance(node, ast.Assign) and len(node.targets) == 1 and isinstance(node.targets[0], ast.Name)
                defined = isinstance(node, (ast.ImportFrom, ast.FunctionDef, ast.ClassDef))
                self.assertTrue(docstring or plain or defined, f"L3 {name}:{node.lineno}")

    def test_imports(self):
        for name, tree in TREES.items():
            for module, alias in imported_in(tree):
                self.assertIsNone(alias.asname, f"L2 {name}")
                if module in LIBRARY:
                    self.assertIn(alias.name, LIBRARY[module], f"L2 {name}")
                else:
                    folder, _, source = module.partition(".")
                    self.assertEqual(folder, "crossmeans", f"L2 {name}")
                    self.assertIn(alias.name, defined_in(TREES[source]), f"L16 {name}")

    def test_no_circles(self):
        needs = {name: {module.partition(".")[2] for module, _ in imported_in(tree) if module not in LIBRARY}
                 for name, tree in TREES.items()}
        while needs:
            free = [name for name, others in needs.items() if not others & needs.keys()]
            self.assertTrue(free, f"L16 {sorted(needs)}")
            needs = {name: others for name, others in needs.items() if name not in free}


class CodeTest(TestCase):
    def test_statements(self):
        barred = (ast.Global, ast.AsyncFunctionDef, ast.Await, ast.Import, ast.Yield, ast.YieldFrom, ast.Div)
        for name, node in nodes_of(*barred):
            self.fail(f"L2, L6, L7 {name}: {ast.dump(node)}")
        for name, node in nodes_of(ast.Constant):
            self.assertNotIsInstance(node.value, (float, complex, bytes), f"L7 {name}:{node.lineno}")
            if isinstance(node.value, str):
                self.assertNotIn(chr(37), node.value, f"L27 {name}:{node.lineno}")

    def test_raising(self):
        for name, node in nodes_of(ast.Raise):
            made = isinstance(node.exc, ast.Call) and isinstance(node.exc.func, ast.Name)
            self.assertTrue(node.exc is None or made, f"L19 {name}:{node.lineno}")
        for name, node in nodes_of(ast.ExceptHandler):
            self.assertIsNotNone(node.type, f"L6 {name}:{node.lineno}")

    def test_builtins(self):
        known = set(dir(builtins))
        for name, node in nodes_of(ast.Name):
            if node.id in known:
                self.assertIn(node.id, BUILTINS, f"L8 {name}:{node.lineno}")
                self.assertIsInstance(node.ctx, ast.Load, f"L15 {name}:{node.lineno}")

    def test_names(self):
        for name, tree in TREES.items():
            imported = {alias.name for _, alias in imported_in(tree)}
            classes = {node.name for node in tree.body if isinstance(node, ast.ClassDef)}
            self.assertFalse(imported & defined_in(tree), f"L15 {name}")
            self.assertFalse(defined_in(tree) & set(dir(builtins)), f"L15 {name}")
            for node in ast.walk(tree):
                if isinstance(node, ast.FunctionDef):
                    bound = bound_names(node)
                    self.assertFalse(bound & (imported | classes), f"L15 {name}:{node.lineno}")
                    self.assertFalse(bound & set(dir(builtins)), f"L15 {name}:{node.lineno}")
                    self.assertFalse((bound | {node.name}) & NEVER, f"L17 {name}:{node.lineno}")
                    for word in bound - {"_"}:
                        self.assertRegex(word, r"^_?[A-Za-z][A-Za-z0-9_]*$", f"L12 {name}:{node.lineno}")

    def test_underscore_is_never_read(self):
        for name, node in nodes_of(ast.Name):
            self.assertFalse(node.id == "_" and isinstance(node.ctx, ast.Load), f"L12 {name}:{node.lineno}")

    def test_double_underscores(self):
        for name, node in nodes_of(ast.FunctionDef):
            if node.name.startswith("__"):
                self.assertIn(node.name, DUNDERS, f"L5 {name}:{node.lineno}")
            for decorator in node.decorator_list:
                self.assertRegex(ast.unparse(decorator), DECORATORS, f"L4 {name}:{node.lineno}")

    def test_methods(self):
        own = {node.name for _, node in nodes_of(ast.FunctionDef)}
        for name, node in nodes_of(ast.Call):
            if isinstance(node.func, ast.Attribute):
                self.assertIn(node.func.attr, METHODS | own, f"L25 {name}:{node.lineno}")

    def test_what_goes_into_calls(self):
        compares = any(node.name == "__eq__" for _, node in nodes_of(ast.FunctionDef))
        allowed = {"list", "tuple", "dict"} if compares else {"list", "tuple", "dict", "sorted", "sum", "any", "all"}
        for name, node in nodes_of(ast.Call):
            called = node.func.id if isinstance(node.func, ast.Name) else ""
            if any(isinstance(argument, ast.GeneratorExp) for argument in node.args):
                self.assertIn(called, allowed, f"L7 {name}:{node.lineno}")
            if called == "set" or any(isinstance(argument, ast.SetComp) for argument in node.args):
                self.assertNotIn(called, {"list", "tuple", "sum", "min", "max"}, f"L24 {name}:{node.lineno}")
        for name, node in nodes_of(ast.Compare):
            for sign, right in zip(node.ops, node.comparators):
                if isinstance(sign, (ast.Is, ast.IsNot)):
                    single = isinstance(right, ast.Constant) and right.value in (None, True, False)
                    self.assertTrue(single, f"L20 {name}:{node.lineno}")

    def test_attributes_are_assigned_somewhere(self):
        stored = {node.attr for _, node in nodes_of(ast.Attribute) if isinstance(node.ctx, ast.Store)}
        own = {node.name for _, node in nodes_of(ast.FunctionDef)} | CLASS_VALUES
        for name, node in nodes_of(ast.Attribute):
            if isinstance(node.ctx, ast.Load) and not node.attr.startswith("__"):
                self.assertIn(node.attr, stored | own | METHODS, f"L18 {name}:{node.lineno}")

    def test_names_of_classes(self):
        for name, node in nodes_of(ast.Attribute):
            if node.attr.startswith("__"):
                self.assertIn(node.attr, ("__class__", "__name__"), f"L8 {name}:{node.lineno}")
            if node.attr == "__name__":
                self.assertEqual(ast.unparse(node), "self.__class__.__name__", f"L8 {name}:{node.lineno}")

    def test_no_name_is_a_method_and_an_attribute(self):
        stored = {node.attr for _, node in nodes_of(ast.Attribute) if isinstance(node.ctx, ast.Store)}
        methods = {node.name for _, made in nodes_of(ast.ClassDef) for node in made.body
                   if isinstance(node, ast.FunctionDef)}
        self.assertEqual(stored & methods, set(), "L18")
        self.assertEqual((stored | methods) & CLASS_VALUES, set(), "L5")

    def test_caught_errors(self):
        own = {node.name for _, node in nodes_of(ast.ClassDef)}
        for name, node in nodes_of(ast.ExceptHandler):
            caught = node.type.elts if isinstance(node.type, ast.Tuple) else [node.type]
            self.assertLessEqual({made.id for made in caught}, own, f"L19 {name}:{node.lineno}")
            # The error itself is only asked: it is not kept or passed on.
            used = [made for made in ast.walk(node) if isinstance(made, ast.Name) and made.id == node.name]
            asked = [made for made in ast.walk(node) if isinstance(made, ast.Attribute) and made.value in used]
            self.assertEqual(len(used), len(asked), f"L19 {name}:{node.lineno}")

    def test_sequences_that_the_library_goes_over(self):
        for name, node in nodes_of(ast.Call):
            if isinstance(node.func, ast.Name) and node.func.id in {"product", "combinations", "permutations"}:
                self.assertFalse(node.keywords, f"L2 {name}:{node.lineno}")
                for argument in node.args:
                    self.assertNotIsInstance(argument, (ast.Starred, ast.GeneratorExp), f"L2 {name}:{node.lineno}")
