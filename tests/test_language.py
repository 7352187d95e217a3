"""Those rules of LANGUAGE.md for the package's files that a short test can see."""

import ast
import pathlib
import re
import unittest

FOLDER = pathlib.Path(__file__).resolve().parent.parent / "twoimages"
FUNCTIONS = (
    "len range enumerate zip min max sum abs sorted reversed int str bool bytes list tuple dict set "
    "isinstance ord repr any all divmod pow getattr hasattr setattr iter next map super property "
    "staticmethod classmethod"
).split()
ERRORS = (
    "Exception ValueError TypeError KeyError IndexError LookupError ZeroDivisionError ArithmeticError "
    "OverflowError RuntimeError NotImplementedError AttributeError StopIteration NotImplemented"
).split()
BUILTINS = dir(__builtins__) if not isinstance(__builtins__, dict) else list(__builtins__)
NEVER = (ast.Global, ast.AsyncFunctionDef, ast.AsyncFor, ast.AsyncWith, ast.Await, ast.Import, ast.Div)
LIBRARY = ("__future__", "heapq", "math", "itertools", "collections")


def files():
    return sorted(path for path in FOLDER.rglob("*") if "__pycache__" not in path.parts and path.is_file())


def nodes(path):
    return list(ast.walk(ast.parse(path.read_text(encoding="utf-8"))))


class Language(unittest.TestCase):
    def test_files_and_characters(self):
        self.assertIn(FOLDER / "__init__.py", files())
        for path in files():
            with self.subTest(path.name):
                self.assertRegex(path.name, r"\A[a-z0-9_]+\.py\Z")
                text = path.read_bytes()
                self.assertEqual([one for one in text if not (32 <= one <= 126 or one == 10)], [])

    def test_sizes(self):
        for path in files():
            with self.subTest(path.name):
                lines = path.read_text(encoding="utf-8").split("\n")
                self.assertLessEqual(len(lines), 400)
                self.assertLessEqual(max(len(line) for line in lines), 120)
                for node in nodes(path):
                    if isinstance(node, ast.FunctionDef):
                        self.assertLessEqual(node.end_lineno - node.lineno + 1, 40, node.name)

    def test_imports(self):
        for path in files():
            for node in nodes(path):
                if isinstance(node, ast.ImportFrom):
                    with self.subTest(path.name, line=node.lineno):
                        self.assertEqual(node.level, 0)
                        self.assertNotIn("*", [one.name for one in node.names])
                        self.assertTrue(node.module.startswith("twoimages.") or node.module in LIBRARY)

    def test_no_name_stands_for_two_things(self):
        for path in files():
            tree = ast.parse(path.read_text(encoding="utf-8"))
            imports = [node for node in tree.body if isinstance(node, ast.ImportFrom)]
            given = [one.asname or one.name for node in imports for one in node.names]
            given += [node.name for node in tree.body if isinstance(node, (ast.FunctionDef, ast.ClassDef))]
            given += [node.targets[0].id for node in tree.body if isinstance(node, ast.Assign)]
            self.assertEqual(sorted(set(given)), sorted(given), path.name)
            for node in nodes(path):
                if isinstance(node, ast.FunctionDef):
                    within = list(ast.walk(node))
                    inner = [one.arg for one in within if isinstance(one, ast.arg)]
                    stored = [one for one in within if isinstance(one, ast.Name) and isinstance(one.ctx, ast.Store)]
                    inner += [one.id for one in stored]
                    inner += [one.name for one in within if isinstance(one, (ast.MatchAs, ast.MatchStar))]
                    with self.subTest(path.name, function=node.name):
                        self.assertEqual([word for word in inner if word in given or word in BUILTINS], [])

    def test_words(self):
        for path in files():
            for node in nodes(path):
                with self.subTest(path.name, line=getattr(node, "lineno", 0)):
                    self.assertNotIsInstance(node, NEVER)
                    if isinstance(node, ast.Constant):
                        self.assertNotIsInstance(node.value, (float, complex))
                        if isinstance(node.value, str):
                            self.assertNotIn("%", node.value)
                    if isinstance(node, ast.Name) and node.id in BUILTINS:
                        self.assertIn(node.id, FUNCTIONS + ERRORS)
                    if isinstance(node, (ast.Name, ast.arg)):
                        word = node.id if isinstance(node, ast.Name) else node.arg
                        self.assertTrue(re.fullmatch(r"_|_?[A-Za-z][A-Za-z0-9_]*", word))


if __name__ == "__main__":
    unittest.main()
