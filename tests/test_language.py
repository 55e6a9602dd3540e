"""Those rules of the program's Python subset that a short look at the files can check."""

import ast
import builtins
import pathlib
import unittest

PACKAGE = pathlib.Path(__file__).parent.parent / "barclips"
LIBRARY = {
    "heapq": {"heappush", "heappop", "heapify", "heapreplace", "heappushpop"},
    "math": {"gcd", "lcm", "isqrt", "comb", "perm", "factorial"},
    "itertools": {
        "product", "combinations", "permutations", "chain", "accumulate", "pairwise", "islice", "zip_longest",
    },
    "collections": {"defaultdict"},
}
DECORATORS = {"staticmethod", "classmethod", "property"}
BARRED = (
    ast.Global, ast.AsyncFunctionDef, ast.AsyncFor, ast.AsyncWith, ast.Await, ast.Div, ast.Import, ast.GeneratorExp,
)
# An example that is run by doctest leaves its last value in `_`.
BUILTINS = set(dir(builtins)) - {"_"}
# Names that stand nowhere, not even as methods or attributes.
UNUSED = {"register", "mro", "elements", "open", "input", "law", "version_info", "with_traceback", "add_note"}


def files():
    return sorted(path for path in PACKAGE.rglob("*") if path.is_file() and path.suffix != ".pyc")


def nodes(path):
    return list(ast.walk(ast.parse(path.read_text(encoding="utf-8"))))


def imports(path):
    """The names that a file imports, with the modules they come from."""
    return {
        alias.name: node.module for node in nodes(path) if isinstance(node, ast.ImportFrom) for alias in node.names
    }


def defined(path):
    """The functions, classes and values at the module level of a file."""
    names = []
    for node in ast.parse(path.read_text(encoding="utf-8")).body:
        if isinstance(node, (ast.FunctionDef, ast.ClassDef)):
            names.append(node.name)
        elif isinstance(node, ast.Assign):
            names.extend(target.id for target in node.targets)
    return names


def assigned(path):
    """The parameters of a file, and the names that are assigned to in it."""
    names = {node.arg for node in nodes(path) if isinstance(node, ast.arg)}
    return names | {
        node.id for node in nodes(path) if isinstance(node, ast.Name) and not isinstance(node.ctx, ast.Load)
    }


class LanguageTests(unittest.TestCase):
    def test_the_package_is_a_folder_of_python_files(self):
        for path in files():
            self.assertRegex(path.name, r"^[a-z_]+\.py$")
        self.assertTrue((PACKAGE / "__init__.py").is_file())

    def test_characters_and_sizes(self):
        for path in files():
            text = path.read_bytes()
            self.assertTrue(all(code == 10 or 32 <= code <= 126 for code in text), path)
            lines = text.decode("ascii").split("\n")
            self.assertLessEqual(len(lines), 400, path)
            self.assertLessEqual(max(len(line) for line in lines), 120, path)

    def test_functions_are_short(self):
        for path in files():
            for node in nodes(path):
                if isinstance(node, ast.FunctionDef):
                    self.assertLessEqual(node.end_lineno - node.lineno + 1, 40, (path, node.name))

    def test_imports(self):
        names = {"barclips." + path.stem for path in files()}
        for path in files():
            for node in nodes(path):
                if isinstance(node, ast.ImportFrom):
                    allowed = LIBRARY.get(node.module)
                    self.assertTrue(node.module in names or allowed, (path, node.module))
                    for alias in node.names:
                        self.assertTrue(allowed is None or alias.name in allowed, (path, alias.name))

    def test_imports_name_the_file_that_defines_the_name(self):
        for path in files():
            for name, module in imports(path).items():
                if module not in LIBRARY:
                    self.assertIn(name, defined(PACKAGE / (module.rpartition(".")[2] + ".py")), path)

    def test_no_two_files_import_each_other(self):
        needed = {path.stem: {module.rpartition(".")[2] for module in imports(path).values()} for path in files()}
        while needed:
            free = [name for name, others in needed.items() if not others & set(needed)]
            self.assertTrue(free, sorted(needed))
            for name in free:
                del needed[name]

    def test_names(self):
        for path in files():
            classes = {node.name for node in nodes(path) if isinstance(node, ast.ClassDef)}
            names = assigned(path)
            self.assertFalse(names & (classes | set(imports(path)) | BUILTINS), path)
            self.assertFalse(set(defined(path)) & BUILTINS, path)
            self.assertEqual(len(set(defined(path))), len(defined(path)), path)
            named = names | {node.attr for node in nodes(path) if isinstance(node, ast.Attribute)}
            self.assertFalse((named | set(defined(path))) & UNUSED, path)

    def test_barred_statements_and_expressions(self):
        for path in files():
            for node in nodes(path):
                self.assertNotIsInstance(node, BARRED, (path, getattr(node, "lineno", None)))
                for decorator in getattr(node, "decorator_list", []):
                    self.assertIn(ast.unparse(decorator).split(".")[-1], DECORATORS | {"setter"}, path)

    def test_strings(self):
        for path in files():
            for node in nodes(path):
                if isinstance(node, ast.Constant):
                    self.assertNotIsInstance(node.value, float)
                    self.assertNotIn("%", str(node.value), (path, node.lineno))


if __name__ == "__main__":
    unittest.main()
