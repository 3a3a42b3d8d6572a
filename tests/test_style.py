"""The rules of writing that a glance at the syntax can tell."""

import ast
import pathlib
import unittest

PACKAGE = pathlib.Path(__file__).resolve().parent.parent / "mendsontime"

BUILTINS = {
    "len", "range", "enumerate", "zip", "min", "max", "sum", "abs", "sorted", "reversed", "int", "str", "bool", "list",
    "tuple", "dict", "set", "isinstance", "ord", "repr", "any", "all", "divmod", "iter", "type", "map", "property",
}
LIBRARY = {"itertools": {"combinations", "product", "permutations"}, "math": {"gcd", "lcm"}}
BARRED_WORDS = {
    "register", "mro", "elements", "open", "input", "law", "eval", "exec", "compile", "id", "vars", "globals",
}
BARRED_NODES = (
    ast.AsyncFunctionDef, ast.Global, ast.GeneratorExp, ast.Div, ast.Await, ast.Yield, ast.YieldFrom, ast.Import,
)


def files():
    return sorted(PACKAGE.rglob("*.py"))


class Style(unittest.TestCase):
    def test_the_folder_holds_only_plain_files(self):
        for path in PACKAGE.iterdir():
            if path.name != "__pycache__":
                self.assertTrue(path.is_file() and path.suffix == ".py", path)
        self.assertTrue((PACKAGE / "__init__.py").is_file())

    def test_sizes_and_characters(self):
        for path in files():
            lines = path.read_text(encoding="ascii").split("\n")
            self.assertLessEqual(len(lines), 399, path)
            for line in lines:
                self.assertLessEqual(len(line), 120, (path, line))
                self.assertTrue(all(" " <= sign <= "~" for sign in line), (path, line))

    def test_functions(self):
        for path in files():
            for node in ast.walk(ast.parse(path.read_text())):
                if isinstance(node, ast.FunctionDef):
                    self.assertLessEqual(node.end_lineno - node.lineno + 1, 40, (path, node.name))
                    for decorator in node.decorator_list:
                        self.assertEqual(ast.unparse(decorator), "property", (path, node.name))
                if isinstance(node, (ast.FunctionDef, ast.ClassDef)):
                    self.assertTrue(node.name.startswith("__") or ast.get_docstring(node), (path, node.name))

    def test_imports(self):
        for path in files():
            for node in ast.walk(ast.parse(path.read_text())):
                if isinstance(node, ast.ImportFrom):
                    self.assertEqual(node.level, 0, path)
                    names = {alias.name for alias in node.names}
                    if node.module in LIBRARY:
                        self.assertLessEqual(names, LIBRARY[node.module], path)
                        continue
                    self.assertTrue(node.module.startswith("mendsontime."), (path, node.module))
                    source = (PACKAGE / (node.module.split(".")[1] + ".py")).read_text()
                    defined = set()
                    for other in ast.parse(source).body:
                        if isinstance(other, (ast.FunctionDef, ast.ClassDef)):
                            defined.add(other.name)
                        elif isinstance(other, ast.Assign):
                            defined.update(target.id for target in other.targets)
                    self.assertLessEqual(names, defined, (path, node.module))

    def test_no_file_imports_itself_through_others(self):
        behind = {}
        for path in files():
            behind[path.stem] = [node.module.split(".")[1] for node in ast.walk(ast.parse(path.read_text()))
                                 if isinstance(node, ast.ImportFrom) and node.module.startswith("mendsontime.")]
        for name in behind:
            reached = list(behind[name])
            for other in reached:
                reached.extend(new for new in behind[other] if new not in reached)
            self.assertNotIn(name, reached)

    def test_names_of_methods_attributes_and_properties(self):
        methods, properties, attributes = set(), set(), set()
        for path in files():
            for owner in ast.parse(path.read_text()).body:
                if not isinstance(owner, ast.ClassDef):
                    continue
                for node in owner.body:
                    if isinstance(node, ast.FunctionDef):
                        (properties if node.decorator_list else methods).add(node.name)
                for node in ast.walk(owner):
                    if isinstance(node, ast.Attribute) and isinstance(node.ctx, ast.Store):
                        attributes.add(node.attr)
        self.assertFalse(methods & properties)
        self.assertFalse(methods & attributes)
        builtin = {name for kind in (str, bytes, int, list, tuple, dict, set) for name in dir(kind)}
        self.assertFalse((properties | attributes) & builtin)
        self.assertFalse({name for name in methods if not name.startswith("__")} & builtin)

    def test_every_import_is_used(self):
        for path in files():
            tree = ast.parse(path.read_text())
            used = {node.id for node in ast.walk(tree) if isinstance(node, ast.Name)}
            for node in ast.walk(tree):
                if isinstance(node, ast.ImportFrom):
                    self.assertLessEqual({alias.name for alias in node.names}, used, path)

    def test_nodes_and_words(self):
        known = dir(__builtins__) if not isinstance(__builtins__, dict) else list(__builtins__)
        for path in files():
            tree = ast.parse(path.read_text())
            imported = {alias.name for node in ast.walk(tree) if isinstance(node, ast.ImportFrom)
                        for alias in node.names}
            for node in ast.walk(tree):
                self.assertNotIsInstance(node, BARRED_NODES, (path, getattr(node, "lineno", 0)))
                self.assertFalse(isinstance(node, ast.Constant) and isinstance(node.value, (float, complex)), path)
                if isinstance(node, ast.Name):
                    self.assertNotIn(node.id, BARRED_WORDS, path)
                    if node.id in known and isinstance(node.ctx, ast.Load):
                        self.assertTrue(node.id in BUILTINS or node.id.endswith("Error"), (path, node.id))
                    if isinstance(node.ctx, ast.Store):
                        self.assertNotIn(node.id, known, (path, node.lineno))
                        self.assertNotIn(node.id, imported, (path, node.lineno))
                if isinstance(node, ast.arg):
                    self.assertNotIn(node.arg, known, (path, node.arg))
                    self.assertNotIn(node.arg, imported, (path, node.arg))


if __name__ == "__main__":
    unittest.main()
