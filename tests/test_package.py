"""The interface as it is listed, and the shape of the package's files."""

import ast
import inspect
import importlib
import pathlib
import unittest

PACKAGE = pathlib.Path(__file__).resolve().parent.parent / "halfrun"
ERRORS = ("HalfError", "NoNumber", "NoList", "NoFirst", "NoDown", "ByNought", "TooGreat", "TooLong", "NotKept",
          "NoText")
FUNCTIONS = {
    "values": {"is_value": ["thing"], "weight": ["value"]},
    "operations": {"done": ["operation", "values"]},
    "programs": {"is_name": ["text"], "is_good": ["program"]},
    "running": {"run": ["program", "inputs", "most"]},
    "sortings": {"keeps": ["program", "sorting"]},
    "halving": {"left_over": ["program", "sorting", "known"], "cases": ["program", "sorting", "known"]},
    "texts": {"shown": ["program"], "read": ["text"]},
}


def sources():
    return {path: path.read_text(encoding="utf-8") for path in sorted(PACKAGE.glob("*.py"))}


class InterfaceTest(unittest.TestCase):
    def test_functions(self):
        for file, functions in FUNCTIONS.items():
            module = importlib.import_module(f"halfrun.{file}")
            for name, arguments in functions.items():
                function = getattr(module, name)
                self.assertEqual(list(inspect.signature(function).parameters), arguments, name)
                self.assertEqual(function.__module__, module.__name__, name)

    def test_classes(self):
        module = importlib.import_module("halfrun.errors")
        for name in ERRORS:
            self.assertEqual(getattr(module, name).__module__, "halfrun.errors")


class FilesTest(unittest.TestCase):
    def test_only_python_files(self):
        for path in PACKAGE.iterdir():
            self.assertTrue(path.suffix == ".py" or path.name == "__pycache__", path)

    def test_lengths_and_signs(self):
        for path, source in sources().items():
            rows = source.split("\n")
            self.assertLessEqual(len(rows) - 1, 399, path)
            self.assertLessEqual(max(len(row) for row in rows), 120, path)
            self.assertTrue(all(sign == "\n" or " " <= sign <= "~" for sign in source), path)

    def test_functions_of_at_most_forty_lines(self):
        for path, source in sources().items():
            for node in ast.walk(ast.parse(source)):
                if isinstance(node, ast.FunctionDef):
                    self.assertLessEqual(node.end_lineno - node.lineno + 1, 40, (path, node.name))

    def test_imports_are_of_the_package(self):
        for path, source in sources().items():
            for node in ast.walk(ast.parse(source)):
                self.assertNotIsInstance(node, ast.Import, path)
                if isinstance(node, ast.ImportFrom):
                    self.assertTrue(node.module.startswith("halfrun."), path)


if __name__ == "__main__":
    unittest.main()
