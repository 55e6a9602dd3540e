"""Those rules of the program's Python subset that a short look at the files can check."""

import ast
import builtins
import functools
import itertools
import pathlib
import unittest

PACKAGE = pathlib.Path(__file__).parent.parent / "barclips"
LIBRARY = {
    "heapq": {"heappush", "heappop", "heapify", "heapreplace", "heappushpop"},
    "math": {"gcd", "lcm", "isqrt", "comb", "perm", "factorial"},
    "itertools": {
        "product", "combinations", "permutations", "chain", "accumulate", "pairwise", "islice", "zip_longest",
    },
    "collections": {"defaultdict"},
}
DECORATORS = {"staticmethod", "classmethod", "property"}
BARRED = (
    ast.Global, ast.AsyncFunctionDef, ast.AsyncFor, ast.AsyncWith, ast.Await, ast.Div, ast.Import, ast.GeneratorExp,
)
# An example that is run by doctest leaves its last value in `_`.
BUILTINS = set(dir(builtins)) - {"_"}
ALLOWED_BUILTINS = set("""
    len range enumerate zip min max sum abs sorted reversed int str bool list tuple dict set isinstance ord repr any all
    divmod iter super property staticmethod classmethod NotImplemented ValueError TypeError KeyError IndexError
    LookupError ZeroDivisionError
""".split())
METHODS = set("""
    append clear copy count endswith extend find get index insert isalnum isalpha isdigit islower isspace isupper items
    join keys ljust lower lstrip partition pop remove replace reverse rfind rjust rpartition rsplit rstrip setdefault
    split splitlines startswith strip update upper values zfill bit_length isascii add discard
""".split())
OPERATORS = {
    f"__{name}__" for name in """
    init eq str repr len call iter lt le gt ge ne add radd sub rsub mul rmul floordiv rfloordiv mod rmod and rand or ror
    iadd isub imul contains getitem setitem bool neg
    """.split()
}
# Words that stand in no file except in comments and docstrings.
BARRED_WORDS = {
    "type", "typing", "enum", "Enum", "Flag", "Generic", "Protocol", "ABC", "ABCMeta", "namedtuple", "NamedTuple",
    "TypedDict", "abstractmethod",
}
# Names that stand nowhere, not even as methods or attributes.
UNUSED = {"register", "mro", "elements", "open", "input", "law", "version_info", "with_traceback", "add_note"}


def files():
    return sorted(path for path in PACKAGE.rglob("*") if path.is_file() and path.suffix != ".pyc")


@functools.cache
def nodes(path):
    return list(ast.walk(ast.parse(path.read_text(encoding="utf-8"))))


def imports(path):
    """The names that a file imports, with the modules they come from."""
    return {
        alias.name: node.module for node in nodes(path) if isinstance(node, ast.ImportFrom) for alias in node.names
    }


def defined(path):
    """The functions, classes and values at the module level of a file."""
    names = []
    for node in ast.parse(path.read_text(encoding="utf-8")).body:
        if isinstance(node, (ast.FunctionDef, ast.ClassDef)):
            names.append(node.name)
        elif isinstance(node, ast.Assign):
            names.extend(target.id for target in node.targets)
    return names


def assigned(path):
    """The parameters of a file, and the names that are assigned to in it."""
    names = {node.arg for node in nodes(path) if isinstance(node, ast.arg)}
    return names | {
        node.id for node in nodes(path) if isinstance(node, ast.Name) and not isinstance(node.ctx, ast.Load)
    }


def docstrings(path):
    """The nodes of the docstrings of a file."""
    owners = [node for node in nodes(path) if isinstance(node, (ast.Module, ast.ClassDef, ast.FunctionDef))]
    return [owner.body[0].value for owner in owners if owner.body and isinstance(owner.body[0], ast.Expr)]


def all_nodes():
    return [node for path in files() for node in nodes(path)]


def class_parts():
    """The names of the methods, properties, class values and attributes of all classes."""
    methods, properties, values, attributes = set(), set(), set(), set()
    for owner in all_nodes():
        for node in owner.body if isinstance(owner, ast.ClassDef) else ():
            if isinstance(node, ast.FunctionDef):
                decorated = any(ast.unparse(each) == "property" for each in node.decorator_list)
                (properties if decorated else methods).add(node.name)
            elif isinstance(node, ast.Assign):
                values.update(target.id for target in node.targets)
    for node in all_nodes():
        if isinstance(node, ast.Attribute) and isinstance(node.ctx, ast.Store):
            attributes.add(node.attr)
    return methods, properties, values, attributes


class LanguageTests(unittest.TestCase):
    def test_the_package_is_a_folder_of_python_files(self):
        for path in files():
            self.assertRegex(path.name, r"^[a-z_]+\.py$")
        self.assertTrue((PACKAGE / "__init__.py").is_file())

    def test_characters_and_sizes(self):
        for path in files():
            text = path.read_bytes()
            self.assertTrue(all(code == 10 or 32 <= code <= 126 for code in text), path)
            lines = text.decode("ascii").split("\n")
            self.assertLessEqual(len(lines), 400, path)
            self.assertLessEqual(max(len(line) for line in lines), 120, path)

    def test_functions_are_short(self):
        for path in files():
            for node in nodes(path):
                if isinstance(node, ast.FunctionDef):
                    self.assertLessEqual(node.end_lineno - node.lineno + 1, 40, (path, node.name))

    def test_imports(self):
        names = {"barclips." + path.stem for path in files()}
        for path in files():
            for node in nodes(path):
                if isinstance(node, ast.ImportFrom):
                    allowed = LIBRARY.get(node.module)
                    self.assertTrue(node.module in names or allowed, (path, node.module))
                    for alias in node.names:
                        self.assertTrue(allowed is None or alias.name in allowed, (path, alias.name))

    def test_imports_name_the_file_that_defines_the_name(self):
        for path in files():
            for name, module in imports(path).items():
                if module not in LIBRARY:
                    self.assertIn(name, defined(PACKAGE / (module.rpartition(".")[2] + ".py")), path)

    def test_no_two_files_import_each_other(self):
        needed = {path.stem: {module.rpartition(".")[2] for module in imports(path).values()} for path in files()}
        while needed:
            free = [name for name, others in needed.items() if not others & set(needed)]
            self.assertTrue(free, sorted(needed))
            for name in free:
                del needed[name]

    def test_names(self):
        for path in files():
            classes = {node.name for node in nodes(path) if isinstance(node, ast.ClassDef)}
            names = assigned(path)
            self.assertFalse(names & (classes | set(imports(path)) | BUILTINS), path)
            self.assertFalse(set(defined(path)) & BUILTINS, path)
            self.assertEqual(len(set(defined(path))), len(defined(path)), path)
            named = names | {node.attr for node in nodes(path) if isinstance(node, ast.Attribute)}
            self.assertFalse((named | set(defined(path))) & UNUSED, path)

    def test_barred_statements_and_expressions(self):
        for path in files():
            for node in nodes(path):
                self.assertNotIsInstance(node, BARRED, (path, getattr(node, "lineno", None)))
                for decorator in getattr(node, "decorator_list", []):
                    self.assertIn(ast.unparse(decorator).split(".")[-1], DECORATORS | {"setter"}, path)

    def test_builtins(self):
        for path in files():
            for node in nodes(path):
                if isinstance(node, ast.Name) and node.id in BUILTINS:
                    self.assertIn(node.id, ALLOWED_BUILTINS, path)

    def test_parts_of_classes(self):
        methods, properties, values, attributes = class_parts()
        for one, other in itertools.combinations((methods, properties, values, attributes), 2):
            self.assertFalse(one & other)
        self.assertFalse((properties | values | attributes) & METHODS)
        for name in methods:
            self.assertTrue(not name.startswith("__") or name in OPERATORS, name)
        used = methods | properties | values | attributes | METHODS
        for node in all_nodes():
            if isinstance(node, ast.Attribute):
                self.assertIn(node.attr, used)

    def test_methods_that_are_called(self):
        methods = class_parts()[0]
        for node in all_nodes():
            if isinstance(node, ast.Call) and isinstance(node.func, ast.Attribute):
                self.assertIn(node.func.attr, methods | METHODS)
                if node.func.attr in METHODS:
                    self.assertFalse(node.keywords)

    def test_operators_of_assignments_and_comparisons(self):
        for node in all_nodes():
            # There are operators whose rules bar most of these.
            self.assertNotIsInstance(node, ast.AugAssign)
            if isinstance(node, ast.Compare) and any(isinstance(each, (ast.Is, ast.IsNot)) for each in node.ops):
                self.assertIs(node.comparators[0].value, None)

    def test_attributes_are_assigned_through_a_local_name(self):
        for path in files():
            for node in nodes(path):
                if isinstance(node, ast.Attribute) and not isinstance(node.ctx, ast.Load):
                    self.assertIsInstance(node.value, ast.Name, (path, node.lineno))
                    self.assertNotIn(node.value.id, defined(path) + list(imports(path)))

    def test_errors_are_created_where_they_are_raised(self):
        for node in all_nodes():
            if isinstance(node, ast.Raise) and node.exc is not None:
                self.assertIsInstance(node.exc, ast.Call)
            if isinstance(node, ast.ExceptHandler):
                self.assertEqual(ast.unparse(node.type), "BarclipsError")

    def test_generators_are_iterated_at_once(self):
        names = {
            owner.name for owner in all_nodes() if isinstance(owner, ast.FunctionDef)
            and any(isinstance(node, (ast.Yield, ast.YieldFrom)) for node in ast.walk(owner))
        }
        self.assertEqual(names, {"walk"})
        iterated = [node.iter for node in all_nodes() if isinstance(node, (ast.For, ast.comprehension))]
        for node in all_nodes():
            if isinstance(node, ast.Call) and ast.unparse(node.func) in names:
                self.assertIn(node, iterated)

    def test_barred_words(self):
        for path in files():
            for node in nodes(path):
                words = []
                if isinstance(node, ast.Name):
                    words = [node.id]
                elif isinstance(node, ast.Constant) and isinstance(node.value, str):
                    words = node.value.split()
                if node not in docstrings(path):
                    self.assertFalse(set(words) & BARRED_WORDS, path)
            for word in ("(type)", "Meta", "metaclass="):
                self.assertNotIn(word, path.read_text(encoding="utf-8"))

    def test_strings(self):
        for path in files():
            for node in nodes(path):
                if isinstance(node, ast.Constant):
                    self.assertNotIsInstance(node.value, float)
                    self.assertNotIn("%", str(node.value), (path, node.lineno))


if __name__ == "__main__":
    unittest.main()
