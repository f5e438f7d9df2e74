"""The rules of ../shared/LANGUAGE.md that can be read off the files plainly."""

import ast
import builtins
import re
import unittest
from pathlib import Path

PACKAGE = Path(__file__).resolve().parent.parent / "mirrorwood"
FILES = sorted(path for path in PACKAGE.iterdir() if path.name != "__pycache__")
BUILTINS = {
    "len", "range", "enumerate", "zip", "min", "max", "sum", "abs", "sorted", "reversed", "int", "str", "bool",
    "list", "tuple", "dict", "set", "isinstance", "ord", "repr", "any", "all", "divmod", "ValueError", "KeyError",
    "IndexError", "LookupError", "RuntimeError", "iter", "next",
}
BARRED = (
    "type typing typing_extensions enum Enum IntEnum StrEnum Flag IntFlag Generic Protocol ABC ABCMeta namedtuple "
    "NamedTuple TypedDict TYPE_CHECKING abstractmethod"
).split()


class Language(unittest.TestCase):
    def each(self):
        for path in FILES:
            yield path.name, path.read_text(encoding="utf-8")

    def test_the_folder_has_plain_files_alone(self):
        self.assertIn("__init__.py", [path.name for path in FILES])
        for path in FILES:
            self.assertRegex(path.name, r"^[a-z][a-z0-9_]*\.py$|^__init__\.py$")

    def test_sizes(self):
        for name, text in self.each():
            rows = text.split("\n")
            self.assertLessEqual(len(rows), 400, name)
            self.assertLessEqual(max(map(len, rows)), 120, name)
            for node in ast.walk(ast.parse(text)):
                if isinstance(node, ast.FunctionDef):
                    self.assertLessEqual(node.end_lineno - node.lineno + 1, 40, (name, node.name))

    def test_signs_and_words(self):
        for name, text in self.each():
            self.assertRegex(text, r"\A[ -~\n]*\Z", name)
            found = re.findall(r"\w+", text)
            self.assertEqual([word for word in BARRED if word in found], [], name)
            self.assertIsNone(re.search("dataclass|overload|contextmanager", text), name)

    def test_imports_are_of_the_package_by_full_names(self):
        for name, text in self.each():
            for node in ast.walk(ast.parse(text)):
                self.assertNotIsInstance(node, ast.Import, name)
                if isinstance(node, ast.ImportFrom):
                    self.assertEqual(node.level, 0, name)
                    self.assertTrue(node.module.startswith("mirrorwood."), name)
                    self.assertNotIn("*", [part.name for part in node.names], name)

    def test_no_name_is_unknown_or_a_builtin_that_is_not_listed(self):
        for name, text in self.each():
            nodes = list(ast.walk(ast.parse(text)))
            known = {node.name for node in nodes if isinstance(node, (ast.FunctionDef, ast.ClassDef))}
            known |= {part.name for node in nodes if isinstance(node, ast.ImportFrom) for part in node.names}
            known |= {node.arg for node in nodes if isinstance(node, ast.arg)}
            known |= {node.id for node in nodes if isinstance(node, ast.Name) and isinstance(node.ctx, ast.Store)}
            used = {node.id for node in nodes if isinstance(node, ast.Name) and isinstance(node.ctx, ast.Load)}
            self.assertEqual(sorted(used - known - BUILTINS), [], name)
            self.assertEqual(sorted(known & BUILTINS), [], name)

    def test_no_local_name_is_an_import_a_class_or_a_builtin(self):
        for name, text in self.each():
            nodes = list(ast.walk(ast.parse(text)))
            fixed = {node.name for node in nodes if isinstance(node, ast.ClassDef)} | set(dir(builtins))
            fixed |= {part.name for node in nodes if isinstance(node, ast.ImportFrom) for part in node.names}
            local = {node.arg for node in nodes if isinstance(node, ast.arg)}
            local |= {node.id for node in nodes if isinstance(node, ast.Name) and isinstance(node.ctx, ast.Store)}
            self.assertEqual(sorted(fixed & local), [], name)

    def test_no_generators_and_no_sort(self):
        for name, text in self.each():
            for node in ast.walk(ast.parse(text)):
                self.assertNotIsInstance(node, (ast.GeneratorExp, ast.Yield, ast.YieldFrom, ast.Global, ast.Match), name)
                if isinstance(node, ast.Attribute):
                    self.assertNotEqual(node.attr, "sort", name)

    def test_no_ring_of_imports(self):
        texts = dict(self.each())
        left = {name: {node.module.split(".")[1] + ".py" for node in ast.walk(ast.parse(text))
                       if isinstance(node, ast.ImportFrom)} for name, text in texts.items()}
        while left:
            ends = [name for name in left if not left[name] & set(left)]
            self.assertNotEqual(ends, [], sorted(left))
            left = {name: left[name] for name in left if name not in ends}

    def test_each_import_is_used_and_of_the_file_that_defines_it(self):
        texts = dict(self.each())
        for name, text in texts.items():
            nodes = list(ast.walk(ast.parse(text)))
            used = {node.id for node in nodes if isinstance(node, ast.Name) and isinstance(node.ctx, ast.Load)}
            for node in nodes:
                if isinstance(node, ast.ImportFrom):
                    other = texts[node.module.split(".")[1] + ".py"]
                    defined = {part.name for part in ast.parse(other).body if hasattr(part, "name")}
                    wanted = {part.name for part in node.names}
                    self.assertEqual(sorted(wanted - defined), [], name)
                    self.assertEqual(sorted(wanted - used), [], name)


if __name__ == "__main__":
    unittest.main()
