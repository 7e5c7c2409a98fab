"""What of the rules of the language can be seen in the files of the package."""

import ast
import builtins
import pathlib
import re
import unittest
import warnings

PACKAGE = pathlib.Path(__file__).resolve().parent.parent / "warmsteps"
BUILTINS = (
    "len range enumerate zip min max sum abs sorted reversed int str bool bytes list tuple dict set isinstance ord "
    "repr any all divmod super property staticmethod classmethod Exception ValueError TypeError KeyError IndexError "
    "LookupError ZeroDivisionError RuntimeError NotImplementedError NotImplemented StopIteration"
).split()
METHODS = (
    "append clear copy count endswith extend find get index insert isalnum isalpha isdigit islower isspace isupper "
    "items join keys ljust lower lstrip partition pop remove replace reverse rfind rjust rpartition rsplit rstrip "
    "setdefault split splitlines startswith strip update upper values zfill bit_length add discard appendleft popleft "
    "__init__"
).split()
BARRED = ("type", "typing", "enum", "Enum", "Generic", "Protocol", "ABC", "namedtuple", "NamedTuple", "TypedDict",
          "abstractmethod", "register", "mro", "elements", "eval", "exec", "globals", "locals", "vars", "Meta")
LIBRARY = {"heapq", "math", "itertools", "collections", "__future__"}
EAGER = ("any", "all", "min", "max", "sum", "sorted")


def trees():
    """Each file with its text and its tree."""
    for path in sorted(PACKAGE.glob("*.py")):
        text = path.read_text(encoding="utf-8")
        yield path, text, ast.parse(text)


def called(node):
    """The name of what is called, if it is a plain name."""
    return node.func.id if isinstance(node, ast.Call) and isinstance(node.func, ast.Name) else None


class LanguageTest(unittest.TestCase):
    def test_files(self):
        for path in PACKAGE.iterdir():
            if path.name != "__pycache__":
                self.assertRegex(path.name, r"\A[a-z0-9_]+\.py\Z")

    def test_characters_and_sizes(self):
        for path, text, tree in trees():
            lines = text.split("\n")
            self.assertLessEqual(len(lines), 399, path)
            for line in lines:
                self.assertTrue(all(" " <= sign <= "~" for sign in line), (path, line))
                self.assertLessEqual(len(line), 120, (path, line))
            for node in ast.walk(tree):
                if isinstance(node, ast.FunctionDef):
                    self.assertLessEqual(node.end_lineno - node.lineno + 1, 40, (path, node.name))

    def test_python_gives_no_warning(self):
        for path, text, _ in trees():
            with warnings.catch_warnings():
                warnings.simplefilter("error")
                compile(text, str(path), "exec")

    def test_imports(self):
        for path, _, tree in trees():
            for node in ast.walk(tree):
                self.assertNotIsInstance(node, ast.Import, path)
                if isinstance(node, ast.ImportFrom):
                    self.assertIn(node, tree.body, path)
                    self.assertEqual(node.level, 0, path)
                    self.assertTrue(node.module.startswith("warmsteps.") or node.module in LIBRARY, node.module)
                    self.assertTrue(all(name.name != "*" for name in node.names), path)

    def test_names_of_python_are_the_ones_that_are_let(self):
        for path, text, tree in trees():
            known = set(BUILTINS)
            for node in ast.walk(tree):
                if isinstance(node, (ast.FunctionDef, ast.ClassDef)):
                    known.add(node.name)
                elif isinstance(node, ast.arg):
                    known.add(node.arg)
                elif isinstance(node, ast.alias):
                    known.add(node.name)
                elif isinstance(node, ast.Name) and isinstance(node.ctx, ast.Store):
                    known.add(node.id)
            for node in ast.walk(tree):
                if isinstance(node, ast.Name):
                    self.assertIn(node.id, known, path)
            for word in BARRED:
                self.assertIsNone(re.search(rf"\b{word}\b", text), (path, word))

    def test_methods_are_own_ones_or_the_ones_that_are_let(self):
        own = set(METHODS)
        for _, _, tree in trees():
            own.update(node.name for node in ast.walk(tree) if isinstance(node, ast.FunctionDef))
        for path, _, tree in trees():
            for node in ast.walk(tree):
                if isinstance(node, ast.Call) and isinstance(node.func, ast.Attribute):
                    self.assertIn(node.func.attr, own, path)

    def test_no_name_is_that_of_a_builtin(self):
        for path, _, tree in trees():
            for node in ast.walk(tree):
                name = getattr(node, "id", None) if isinstance(getattr(node, "ctx", None), ast.Store) else None
                name = node.arg if isinstance(node, ast.arg) else name
                self.assertFalse(name not in (None, "_") and hasattr(builtins, name), (path, name))

    def test_imports_and_classes_keep_their_names(self):
        for path, _, tree in trees():
            kept = {node.name for node in tree.body if isinstance(node, ast.ClassDef)}
            for node in tree.body:
                if isinstance(node, ast.ImportFrom):
                    kept.update(name.asname or name.name for name in node.names)
            for node in ast.walk(tree):
                if isinstance(node, ast.arg):
                    self.assertNotIn(node.arg, kept, path)
                if isinstance(node, ast.Name) and isinstance(node.ctx, ast.Store):
                    self.assertNotIn(node.id, kept, path)

    def test_no_two_files_import_from_each_other(self):
        imported = {}
        for path, _, tree in trees():
            froms = [node.module.split(".")[-1] for node in tree.body if isinstance(node, ast.ImportFrom)]
            imported[path.stem] = [name for name in froms if (PACKAGE / f"{name}.py").exists()]
        while imported:
            ends = [name for name in imported if not any(other in imported for other in imported[name])]
            self.assertTrue(ends, imported)
            for name in ends:
                del imported[name]

    def test_properties_and_methods_are_no_attributes(self):
        properties, assigned, called_so = {}, {}, set()
        for path, _, tree in trees():
            for node in ast.walk(tree):
                if isinstance(node, ast.ClassDef):
                    methods = [part for part in node.body if isinstance(part, ast.FunctionDef)]
                    own = {part.attr for part in ast.walk(node)
                           if isinstance(part, ast.Attribute) and isinstance(part.ctx, ast.Store)}
                    self.assertFalse(own & {method.name for method in methods}, (path, node.name))
                    for method in methods:
                        if any(getattr(mark, "id", "") == "property" for mark in method.decorator_list):
                            properties[method.name] = node.name
                        else:
                            called_so.add(method.name)
                if isinstance(node, ast.Attribute) and isinstance(node.ctx, ast.Store):
                    assigned[node.attr] = path
        self.assertFalse(set(properties) & set(assigned))
        self.assertFalse(set(properties) & called_so)

    def test_what_goes_through_all_takes_a_list(self):
        for path, _, tree in trees():
            for node in ast.walk(tree):
                if called(node) in EAGER:
                    self.assertFalse(any(isinstance(arg, ast.GeneratorExp) for arg in node.args), (path, node.lineno))

    def test_statements_and_values_that_are_not_let(self):
        for path, _, tree in trees():
            for node in ast.walk(tree):
                self.assertNotIsInstance(node, (ast.Global, ast.AsyncFunctionDef, ast.Await, ast.Div), path)
                if isinstance(node, ast.Constant):
                    self.assertNotIsInstance(node.value, (float, complex), path)
                    self.assertNotIn("%", str(node.value), path)
                if isinstance(node, ast.Raise):
                    self.assertTrue(node.exc is None or called(node.exc), path)

    def test_every_name_of_a_file_is_used(self):
        everything = "\n".join(text for _, text, _ in trees())
        for path, _, tree in trees():
            for node in tree.body:
                if isinstance(node, ast.Assign):
                    for target in node.targets:
                        many = len(re.findall(rf"\b{target.id}\b", everything))
                        self.assertGreater(many, 1, (path, target.id))


if __name__ == "__main__":
    unittest.main()
