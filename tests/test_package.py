"""The rules of the interface, and those of the language that a test can see."""

import ast
import pathlib
import re
import unittest

ROOT = pathlib.Path(__file__).resolve().parent.parent / "plainmark"
FILES = sorted(ROOT.rglob("*.py"))

INTERFACE = {
    "errors": {"NoSource": ["place"], "NoDefinitions": [], "NoLabel": [], "NoTree": [],
               "NoText": [], "NoEdit": ["index"]},
    "columns": {"lines_of": ["text"], "whole": ["line"], "taken": ["rest", "many"],
                "indent": ["rest"], "told": ["rest"]},
    "tags": {"html_kind": ["line"], "html_ends": ["kind", "line"], "tag_at": ["text", "place"]},
    "references": {"reference_at": ["text", "place"], "decoded": ["text"]},
    "links": {"normalised": ["text"]},
    "definitions": {"definition_at": ["text", "place"], "definitions": ["blocks"]},
}

# L17: words that stand in no file, and names that nothing has.
BARRED_WORDS = re.compile(
    r"\b(type|typing|typing_extensions|enum|Enum|IntEnum|StrEnum|Flag|IntFlag|Generic|Protocol|"
    r"ABC|ABCMeta|namedtuple|NamedTuple|TypedDict|TYPE_CHECKING|abstractmethod)\b"
    r"|dataclass|overload|contextmanager")
BARRED_NAMES = set(
    "register mro elements open input law version_info with_traceback add_note attrgetter "
    "breakpoint builtins compile copyright credits delattr dir eval exec exit gc globals help id "
    "importlib license locals methodcaller os quit type vars sys print chr hash filter "
    "object round slice callable float complex bytearray memoryview".split())
LIBRARY = ("heapq", "math", "itertools", "collections")


def source(path):
    return path.read_text(encoding="utf-8")


def nodes(path, *kinds):
    return [node for node in ast.walk(ast.parse(source(path))) if isinstance(node, kinds)]


class Interface(unittest.TestCase):
    def test_each_name_is_defined_in_its_file_with_its_arguments(self):
        for module, names in INTERFACE.items():
            tree = ast.parse(source(ROOT / (module + ".py")))
            defined = {node.name: node for node in tree.body
                       if isinstance(node, (ast.FunctionDef, ast.ClassDef))}
            for name, wanted in names.items():
                node = defined[name]
                if isinstance(node, ast.ClassDef):
                    methods = {one.name: one for one in node.body
                               if isinstance(one, ast.FunctionDef)}
                    wanted, node = ["self"] + wanted, methods["__init__"]
                self.assertEqual([one.arg for one in node.args.args], wanted, name)
                self.assertFalse(node.args.posonlyargs or node.args.kwonlyargs, name)
                self.assertFalse(node.args.vararg or node.args.kwarg or node.args.defaults, name)


class Language(unittest.TestCase):
    def test_there_are_plain_files_alone(self):
        self.assertTrue((ROOT / "__init__.py").is_file())
        for path in ROOT.rglob("*"):
            if "__pycache__" not in path.parts:
                self.assertTrue(path.is_dir() or re.fullmatch(r"[a-z0-9_]+\.py", path.name), path)

    def test_sizes_and_characters(self):
        for path in FILES:
            text = source(path)
            self.assertTrue(all(sign == "\n" or " " <= sign <= "~" for sign in text), path)
            self.assertLessEqual(len(text.splitlines()), 399, path)
            self.assertLessEqual(max(len(line) for line in text.splitlines()), 120, path)
            for node in nodes(path, ast.FunctionDef):
                self.assertLessEqual(node.end_lineno - node.lineno + 1, 40, (path, node.name))

    def test_strings(self):
        for path in FILES:
            for node in nodes(path, ast.Constant):
                self.assertNotIsInstance(node.value, (float, complex), path)
                if isinstance(node.value, str):
                    self.assertNotIn("%", node.value, path)
                    self.assertFalse(node.value.endswith(("._", ".__")), path)

    def test_words_and_names(self):
        for path in FILES:
            self.assertIsNone(BARRED_WORDS.search(source(path)), path)
            for node in ast.walk(ast.parse(source(path))):
                for field in ("id", "name", "arg", "attr"):
                    name = getattr(node, field, None)
                    self.assertNotIn(name, BARRED_NAMES, (path, name))

    def test_imports(self):
        for path in FILES:
            self.assertEqual(nodes(path, ast.Import), [], path)
            top = ast.parse(source(path)).body
            for node in nodes(path, ast.ImportFrom):
                self.assertIn(node.lineno, [one.lineno for one in top], path)
                self.assertTrue(node.module.startswith("plainmark.") or node.module in LIBRARY, path)
                self.assertEqual([one.asname for one in node.names], [None] * len(node.names))

    def test_statements(self):
        barred = (ast.Global, ast.AsyncFunctionDef, ast.AsyncFor, ast.AsyncWith, ast.Await, ast.Div)
        for path in FILES:
            self.assertEqual(nodes(path, *barred), [], path)

    def test_module_level_has_definitions_and_plain_names_alone(self):
        allowed = (ast.Expr, ast.ImportFrom, ast.FunctionDef, ast.ClassDef, ast.Assign)
        for path in FILES:
            bound = []
            for node in ast.parse(source(path)).body:
                self.assertIsInstance(node, allowed, path)
                if isinstance(node, ast.Expr):
                    self.assertIsInstance(node.value, ast.Constant, path)
                if isinstance(node, ast.Assign):
                    self.assertEqual([len(node.targets), type(node.targets[0])], [1, ast.Name])
                    ast.literal_eval(node.value)
                    bound.append(node.targets[0].id)
                if isinstance(node, (ast.FunctionDef, ast.ClassDef)):
                    bound.append(node.name)
                if isinstance(node, ast.ImportFrom):
                    bound.extend(one.name for one in node.names)
            self.assertEqual(len(bound), len(set(bound)), path)


if __name__ == "__main__":
    unittest.main()
