"""The rules of the interface, and those of the language that a test can see."""

import ast
import builtins
import pathlib
import re
import unittest

ROOT = pathlib.Path(__file__).resolve().parent.parent / "plainmark"
FILES = sorted(ROOT.rglob("*.py"))

INTERFACE = {
    "errors": {"NoSource": ["place"], "NoDefinitions": [], "NoLabel": [], "NoTree": [],
               "NoText": [], "NoEdit": ["index"]},
    "columns": {"lines_of": ["text"], "whole": ["line"], "taken": ["rest", "many"],
                "indent": ["rest"], "told": ["rest"]},
    "tags": {"html_kind": ["line"], "html_ends": ["kind", "line"], "tag_at": ["text", "place"]},
    "references": {"reference_at": ["text", "place"], "decoded": ["text"]},
    "links": {"normalised": ["text"]},
    "definitions": {"definition_at": ["text", "place"], "definitions": ["blocks"]},
    "blocks": {"outline": ["text"], "spans": ["text"], "state": ["text"], "next_state": ["ahead", "line"],
               "Reader": []},
    "inlines": {"inlines": ["content", "known"]},
    "reading": {"read": ["text"]},
    "trees": {"is_tree": ["thing"]},
    "pages": {"page": ["tree"], "escaped": ["text"], "words": ["row"]},
    "writing": {"written": ["tree"], "trimmed": ["text"]},
    "edits": {"edited": ["text", "edit"], "back": ["text", "edit"], "least_edit": ["text", "other"],
              "reread": ["text", "edit"], "stays": ["text", "edit"], "changed_labels": ["text", "edit"],
              "felt": ["text", "edit"]},
}
METHODS = {("blocks", "Reader"): {"feed": ["self", "line"], "state": ["self"], "blocks": ["self"]}}
DEFAULTS = {"inlines": [None]}

# L17: words that stand in no file, and names that nothing has.
BARRED_WORDS = re.compile(
    r"\b(type|typing|typing_extensions|enum|Enum|IntEnum|StrEnum|Flag|IntFlag|Generic|Protocol|"
    r"ABC|ABCMeta|namedtuple|NamedTuple|TypedDict|TYPE_CHECKING|abstractmethod)\b"
    r"|dataclass|overload|contextmanager")
BARRED_NAMES = set(
    "register mro elements open input law version_info with_traceback add_note attrgetter "
    "breakpoint builtins compile copyright credits delattr dir eval exec exit gc globals help id "
    "importlib license locals methodcaller os quit type vars sys print chr hash filter "
    "object round slice callable float complex bytearray memoryview".split())
LIBRARY = ("heapq", "math", "itertools", "collections")


def source(path):
    return path.read_text(encoding="utf-8")


def nodes(path, *kinds):
    return [node for node in ast.walk(ast.parse(source(path))) if isinstance(node, kinds)]


class Interface(unittest.TestCase):
    def test_each_name_is_defined_in_its_file_with_its_arguments(self):
        for module, names in INTERFACE.items():
            tree = ast.parse(source(ROOT / (module + ".py")))
            defined = {node.name: node for node in tree.body
                       if isinstance(node, (ast.FunctionDef, ast.ClassDef))}
            for name, wanted in names.items():
                node = defined[name]
                if isinstance(node, ast.ClassDef):
                    methods = self.methods(node)
                    for method, arguments in METHODS.get((module, name), {}).items():
                        self.takes(methods[method], arguments)
                    wanted, node = ["self"] + wanted, methods["__init__"]
                self.takes(node, wanted)

    def methods(self, node):
        return {one.name: one for one in node.body if isinstance(one, ast.FunctionDef)}

    def takes(self, node, wanted):
        defaults = [one.value for one in node.args.defaults]
        self.assertEqual([one.arg for one in node.args.args], wanted, node.name)
        self.assertFalse(node.args.posonlyargs or node.args.kwonlyargs, node.name)
        self.assertFalse(node.args.vararg or node.args.kwarg, node.name)
        self.assertEqual(defaults, DEFAULTS.get(node.name, []), node.name)


class Language(unittest.TestCase):
    def test_there_are_plain_files_alone(self):
        self.assertTrue((ROOT / "__init__.py").is_file())
        for path in ROOT.rglob("*"):
            if "__pycache__" not in path.parts:
                self.assertTrue(path.is_dir() or re.fullmatch(r"[a-z0-9_]+\.py", path.name), path)

    def test_sizes_and_characters(self):
        for path in FILES:
            text = source(path)
            self.assertTrue(all(sign == "\n" or " " <= sign <= "~" for sign in text), path)
            self.assertLessEqual(len(text.splitlines()), 399, path)
            self.assertLessEqual(max(len(line) for line in text.splitlines()), 120, path)
            for node in nodes(path, ast.FunctionDef):
                self.assertLessEqual(node.end_lineno - node.lineno + 1, 40, (path, node.name))

    def test_strings(self):
        for path in FILES:
            for node in nodes(path, ast.Constant):
                self.assertNotIsInstance(node.value, (float, complex), path)
                if isinstance(node.value, str):
                    self.assertNotIn("%", node.value, path)
                    self.assertFalse(node.value.endswith(("._", ".__")), path)
                    self.assertFalse(node.value.startswith("__") and node.value.endswith("__"), path)

    def test_words_and_names(self):
        for path in FILES:
            self.assertIsNone(BARRED_WORDS.search(source(path)), path)
            for node in ast.walk(ast.parse(source(path))):
                for field in ("id", "name", "arg", "attr"):
                    name = getattr(node, field, None)
                    self.assertNotIn(name, BARRED_NAMES, (path, name))

    def test_imports(self):
        for path in FILES:
            self.assertEqual(nodes(path, ast.Import), [], path)
            top = ast.parse(source(path)).body
            for node in nodes(path, ast.ImportFrom):
                self.assertIn(node.lineno, [one.lineno for one in top], path)
                self.assertTrue(node.module.startswith("plainmark.") or node.module in LIBRARY, path)
                self.assertEqual([one.asname for one in node.names], [None] * len(node.names))

    def test_statements(self):
        barred = (ast.Global, ast.AsyncFunctionDef, ast.AsyncFor, ast.AsyncWith, ast.Await, ast.Div)
        for path in FILES:
            self.assertEqual(nodes(path, *barred), [], path)

    def test_module_level_has_definitions_and_plain_names_alone(self):
        allowed = (ast.Expr, ast.ImportFrom, ast.FunctionDef, ast.ClassDef, ast.Assign)
        for path in FILES:
            bound = []
            for node in ast.parse(source(path)).body:
                self.assertIsInstance(node, allowed, path)
                if isinstance(node, ast.Expr):
                    self.assertIsInstance(node.value, ast.Constant, path)
                if isinstance(node, ast.Assign):
                    self.assertEqual([len(node.targets), type(node.targets[0])], [1, ast.Name])
                    self.is_plain(node.value, bound)
                    bound.append(node.targets[0].id)
                if isinstance(node, (ast.FunctionDef, ast.ClassDef)):
                    bound.append(node.name)
                if isinstance(node, ast.ImportFrom):
                    bound.extend(one.name for one in node.names)
            self.assertEqual(len(bound), len(set(bound)), path)

    def is_plain(self, node, bound):
        """A plain value, or a dict from plain values to functions defined above."""
        if isinstance(node, ast.Dict) and any(isinstance(one, ast.Name) for one in node.values):
            for key, value in zip(node.keys, node.values):
                ast.literal_eval(key)
                self.assertIn(value.id, bound)
        else:
            ast.literal_eval(node)

    def test_no_file_imports_from_itself_through_others(self):
        imports = {path.stem: {node.module.split(".")[-1] for node in nodes(path, ast.ImportFrom)} for path in FILES}
        for name in imports:
            ahead, met = set(imports[name]), set()
            while ahead:
                one = ahead.pop()
                met.add(one)
                ahead |= imports[one] - met
            self.assertNotIn(name, met)

    def test_names_within_functions(self):
        """L15: no name of a builtin, of a class or of an import of the file."""
        for path in FILES:
            top = ast.parse(source(path)).body
            # The last value that was shown is no name of the language.
            barred = set(dir(builtins)) - {"_"}
            for node in top:
                if isinstance(node, ast.ImportFrom):
                    barred |= {one.name for one in node.names}
                if isinstance(node, ast.ClassDef):
                    barred.add(node.name)
            for node in nodes(path, ast.FunctionDef, ast.Lambda):
                names = {one.arg for one in node.args.args}
                names |= {one.id for one in ast.walk(node) if isinstance(one, ast.Name) and isinstance(one.ctx, ast.Store)}
                self.assertEqual(names & barred, set(), path)

    def test_imports_are_used(self):
        for path in FILES:
            used = {node.id for node in nodes(path, ast.Name)}
            for node in nodes(path, ast.ImportFrom):
                self.assertEqual({one.name for one in node.names} - used, set(), path)

    def test_no_name_is_a_method_and_an_attribute(self):
        methods, attributes = set(), set()
        for path in FILES:
            for node in nodes(path, ast.ClassDef):
                methods |= {one.name for one in node.body if isinstance(one, ast.FunctionDef)}
            attributes |= {one.attr for one in nodes(path, ast.Attribute) if isinstance(one.ctx, ast.Store)}
        self.assertEqual(methods & attributes, set())


if __name__ == "__main__":
    unittest.main()
