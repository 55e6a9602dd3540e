"""Those rules of the program's Python subset that a short look at the files can check."""

import ast
import pathlib
import unittest

PACKAGE = pathlib.Path(__file__).parent.parent / "barclips"
LIBRARY = {
    "heapq": {"heappush", "heappop", "heapify", "heapreplace", "heappushpop"},
    "math": {"gcd", "lcm", "isqrt", "comb", "perm", "factorial"},
    "itertools": {
        "product", "combinations", "permutations", "chain", "accumulate", "pairwise", "islice", "zip_longest",
    },
    "collections": {"defaultdict"},
}
DECORATORS = {"staticmethod", "classmethod", "property"}
BARRED = (
    ast.Global, ast.AsyncFunctionDef, ast.AsyncFor, ast.AsyncWith, ast.Await, ast.Div, ast.Import, ast.GeneratorExp,
)


def files():
    return sorted(path for path in PACKAGE.rglob("*") if path.is_file() and path.suffix != ".pyc")


def nodes(path):
    return list(ast.walk(ast.parse(path.read_text(encoding="utf-8"))))


class LanguageTests(unittest.TestCase):
    def test_the_package_is_a_folder_of_python_files(self):
        for path in files():
            self.assertRegex(path.name, r"^[a-z_]+\.py$")
        self.assertTrue((PACKAGE / "__init__.py").is_file())

    def test_characters_and_sizes(self):
        for path in files():
            text = path.read_bytes()
            self.assertTrue(all(code == 10 or 32 <= code <= 126 for code in text), path)
            lines = text.decode("ascii").split("\n")
            self.assertLessEqual(len(lines), 400, path)
            self.assertLessEqual(max(len(line) for line in lines), 120, path)

    def test_functions_are_short(self):
        for path in files():
            for node in nodes(path):
                if isinstance(node, ast.FunctionDef):
                    self.assertLessEqual(node.end_lineno - node.lineno + 1, 40, (path, node.name))

    def test_imports(self):
        names = {"barclips." + path.stem for path in files()}
        for path in files():
            for node in nodes(path):
                if isinstance(node, ast.ImportFrom):
                    allowed = LIBRARY.get(node.module)
                    self.assertTrue(node.module in names or allowed, (path, node.module))
                    for alias in node.names:
                        self.assertTrue(allowed is None or alias.name in allowed, (path, alias.name))

    def test_barred_statements_and_expressions(self):
        for path in files():
            for node in nodes(path):
                self.assertNotIsInstance(node, BARRED, (path, getattr(node, "lineno", None)))
                for decorator in getattr(node, "decorator_list", []):
                    self.assertIn(ast.unparse(decorator).split(".")[-1], DECORATORS | {"setter"}, path)

    def test_strings(self):
        for path in files():
            for node in nodes(path):
                if isinstance(node, ast.Constant):
                    self.assertNotIsInstance(node.value, float)
                    self.assertNotIn("%", str(node.value), (path, node.lineno))


if __name__ == "__main__":
    unittest.main()
