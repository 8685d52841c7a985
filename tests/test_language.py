"""The plainest of the rules for the package's files: sizes, characters, imports, words that are not used."""

import ast
import pathlib
import re
import unittest

PACKAGE = pathlib.Path(__file__).parent.parent / "oftenasked"
BUILTINS = """len range enumerate zip min max sum abs sorted reversed int str bool list tuple dict set isinstance ord repr
any all divmod Exception ValueError TypeError KeyError IndexError LookupError""".split()
METHODS = """append clear copy count endswith extend find get index insert isalnum isalpha isdigit islower isspace isupper
items join keys ljust lower lstrip partition pop remove replace reverse rfind rjust rpartition rsplit rstrip setdefault
split splitlines startswith strip update upper values zfill add discard""".split()
BARRED = ("async", "__import__", "eval(", "exec(", "open(", "input(", "global ", "import *")


class Language(unittest.TestCase):
    def setUp(self):
        self.files = {path: path.read_text() for path in sorted(PACKAGE.glob("*.py"))}

    def test_the_folder_holds_files_of_python_only(self):
        names = [path.name for path in PACKAGE.iterdir() if path.name != "__pycache__"]
        self.assertEqual(sorted(names), [path.name for path in self.files])
        self.assertTrue(all(re.fullmatch("[a-z_]+[.]py", name) for name in names))

    def test_sizes_and_characters(self):
        for path, text in self.files.items():
            lines = text.splitlines()
            self.assertLessEqual(len(lines), 399, path)
            self.assertLessEqual(max(map(len, lines)), 120, path)
            self.assertTrue(all(" " <= sign <= "~" or sign == "\n" for sign in text), path)
            for node in ast.walk(ast.parse(text)):
                if isinstance(node, ast.FunctionDef):
                    self.assertLessEqual(node.end_lineno - node.lineno + 1, 40, node.name)

    def test_imports_name_the_package_alone(self):
        for path, text in self.files.items():
            for node in ast.walk(ast.parse(text)):
                self.assertNotIsInstance(node, ast.Import, path)
                if isinstance(node, ast.ImportFrom):
                    self.assertTrue(node.module.startswith("oftenasked."), path)
                    home = ast.parse(self.files[PACKAGE / (node.module.split(".")[1] + ".py")])
                    defined = [part.name for part in home.body if hasattr(part, "name")]
                    defined += [part.targets[0].id for part in home.body if isinstance(part, ast.Assign)]
                    self.assertTrue(all(alias.name in defined for alias in node.names), path)

    def test_calls_are_of_own_functions_and_of_what_may_be_used(self):
        own = [node.name for text in self.files.values() for node in ast.walk(ast.parse(text)) if hasattr(node, "name")
               and isinstance(node, (ast.FunctionDef, ast.ClassDef))]
        for path, text in self.files.items():
            for node in ast.walk(ast.parse(text)):
                if isinstance(node, ast.Call) and isinstance(node.func, ast.Name):
                    self.assertIn(node.func.id, own + BUILTINS, path)
                if isinstance(node, ast.Call) and isinstance(node.func, ast.Attribute):
                    self.assertIn(node.func.attr, own + METHODS, path)

    def test_words_that_are_not_used(self):
        for path, text in self.files.items():
            for word in BARRED:
                self.assertNotIn(word, text, path)
            for node in ast.walk(ast.parse(text)):
                self.assertNotIsInstance(node, (ast.GeneratorExp, ast.Set, ast.Global, ast.Div), path)


if __name__ == "__main__":
    unittest.main()
