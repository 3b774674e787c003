"""The package keeps to the rules of LANGUAGE.md that are plain to check over its files."""

import ast
import builtins
import pathlib
import re
import unittest

PACKAGE = pathlib.Path(__file__).resolve().parent.parent / "loghall"
FILES = sorted(PACKAGE.glob("*.py"))
BARRED = ("type typing typing_extensions enum Enum IntEnum StrEnum Flag IntFlag Generic Protocol ABC ABCMeta "
          "namedtuple NamedTuple TypedDict TYPE_CHECKING abstractmethod").split()
BARRED_WITHIN = ["dataclass", "overload", "contextmanager"]


def sources():
    return [(path.name, path.read_bytes().decode("utf-8")) for path in FILES]


def functions(tree):
    return [node for node in ast.walk(tree) if isinstance(node, ast.FunctionDef)]


class Language(unittest.TestCase):
    def test_files_and_their_names(self):
        self.assertIn("__init__.py", [path.name for path in FILES])
        for path in PACKAGE.iterdir():
            if path.name != "__pycache__":
                self.assertRegex(path.name, r"\A(__init__|[a-z][a-z0-9_]*)\.py\Z")

    def test_characters(self):
        for name, text in sources():
            with self.subTest(file=name):
                self.assertEqual([sign for sign in text if sign != "\n" and not " " <= sign <= "~"], [])

    def test_sizes(self):
        for name, text in sources():
            with self.subTest(file=name):
                lines = text.split("\n")
                self.assertLessEqual(len(lines), 400)
                self.assertLessEqual(max(len(line) for line in lines), 120)
                for node in functions(ast.parse(text)):
                    self.assertLessEqual(node.end_lineno - node.lineno + 1, 40, node.name)

    def test_barred_words(self):
        for name, text in sources():
            with self.subTest(file=name):
                words = set(re.findall(r"[A-Za-z0-9_]+", text))
                self.assertEqual(words & set(BARRED), set())
                self.assertEqual([part for part in BARRED_WITHIN if part in text], [])

    def test_imports(self):
        for name, text in sources():
            with self.subTest(file=name):
                for node in ast.walk(ast.parse(text)):
                    self.assertNotIsInstance(node, ast.Import)
                    if isinstance(node, ast.ImportFrom):
                        self.assertEqual(node.level, 0)
                        self.assertRegex(node.module, r"\Aloghall\.[a-z_0-9]+\Z")
                        self.assertTrue((PACKAGE / (node.module.split(".")[1] + ".py")).is_file())
                        self.assertNotIn("*", [one.name for one in node.names])

    def test_names_of_parameters_and_locals(self):
        for name, text in sources():
            tree = ast.parse(text)
            taken = {one.name for node in ast.walk(tree) if isinstance(node, ast.ImportFrom) for one in node.names}
            taken |= {node.name for node in ast.walk(tree) if isinstance(node, ast.ClassDef)}
            for node in functions(tree):
                local = {one.arg for one in ast.walk(node) if isinstance(one, ast.arg)}
                local |= {one.id for one in ast.walk(node) if isinstance(one, ast.Name) and isinstance(one.ctx, ast.Store)}
                with self.subTest(file=name, function=node.name):
                    self.assertEqual(local & (taken | set(dir(builtins))), set())
                    self.assertEqual([one for one in local if one.startswith("_")], [])

    def test_no_name_is_a_method_and_an_attribute(self):
        methods, attributes = set(), set()
        for name, text in sources():
            for node in ast.walk(ast.parse(text)):
                if isinstance(node, ast.ClassDef):
                    methods |= {one.name for one in node.body if isinstance(one, ast.FunctionDef)}
                if isinstance(node, ast.Attribute) and isinstance(node.ctx, ast.Store):
                    attributes.add(node.attr)
        self.assertEqual(methods & attributes, set())

    def test_stars_stand_only_ahead_of_names(self):
        for name, text in sources():
            for node in ast.walk(ast.parse(text)):
                if isinstance(node, ast.Starred):
                    self.assertIsInstance(node.value, (ast.Name, ast.Attribute), name)

    def test_no_float_division_or_percent_sign(self):
        for name, text in sources():
            with self.subTest(file=name):
                for node in ast.walk(ast.parse(text)):
                    self.assertNotIsInstance(node, (ast.Div, ast.Global, ast.AsyncFunctionDef))
                    if isinstance(node, ast.Constant):
                        self.assertNotIsInstance(node.value, (float, complex))
                        self.assertNotIn("%", str(node.value))


if __name__ == "__main__":
    unittest.main()
