"""Those rules of LANGUAGE.md that a plain look at the package can check; the others are for the reader."""

import ast
import builtins
import pathlib
import unittest

PACKAGE = pathlib.Path(__file__).resolve().parent.parent / "passyards"
SOURCES = {path.name: path.read_bytes() for path in sorted(PACKAGE.rglob("*.py"))}
TREES = {name: ast.parse(source) for name, source in SOURCES.items()}
BUILTINS = set("""len range enumerate zip min max sum abs sorted reversed int str bool list tuple dict set isinstance
    ord repr any all divmod ValueError LookupError RuntimeError OverflowError""".split())
FORBIDDEN = (ast.Global, ast.AsyncFunctionDef, ast.Await, ast.Import, ast.Div)


def nodes(kind):
    """All nodes of that kind, with the name of their file."""
    return [(name, node) for name, tree in TREES.items() for node in ast.walk(tree) if isinstance(node, kind)]


class Language(unittest.TestCase):
    def test_the_folder_holds_nothing_else(self):
        rest = [path for path in PACKAGE.rglob("*") if path.suffix != ".py" and "__pycache__" not in path.parts]
        self.assertEqual(rest, [])
        self.assertIn("__init__.py", SOURCES)

    def test_sizes_and_characters(self):
        for name, source in SOURCES.items():
            with self.subTest(file=name):
                rows = source.decode("ascii").split("\n")
                self.assertTrue(all(byte == 10 or 32 <= byte <= 126 for byte in source))
                self.assertLessEqual(len(rows), 399)
                self.assertLessEqual(max(map(len, rows)), 120)

    def test_functions_are_short_and_not_decorated(self):
        for name, node in nodes((ast.FunctionDef, ast.ClassDef)):
            with self.subTest(file=name, name=node.name):
                self.assertEqual(node.decorator_list, [])
                if isinstance(node, ast.FunctionDef):
                    self.assertLessEqual(node.end_lineno - node.lineno + 1, 40)

    def test_imports_name_the_file_that_defines_the_name(self):
        for name, node in nodes(ast.ImportFrom):
            with self.subTest(file=name, line=node.lineno):
                self.assertEqual(node.level, 0)
                if node.module == "math":
                    self.assertLessEqual({alias.name for alias in node.names}, {"comb", "factorial"})
                    continue
                package, file = node.module.split(".")
                self.assertEqual(package, "passyards")
                defined = {part.name for part in TREES[file + ".py"].body if hasattr(part, "name")}
                defined |= {target.id for part in TREES[file + ".py"].body if isinstance(part, ast.Assign)
                            for target in part.targets}
                self.assertLessEqual({alias.name for alias in node.names}, defined)

    def test_module_level(self):
        allowed = (ast.ImportFrom, ast.FunctionDef, ast.ClassDef, ast.Assign)
        for name, tree in TREES.items():
            with self.subTest(file=name):
                self.assertIsNotNone(ast.get_docstring(tree))
                self.assertTrue(all(isinstance(part, allowed) for part in tree.body[1:]))

    def test_what_is_not_in_the_subset(self):
        self.assertEqual([(name, node.lineno) for name, node in nodes(FORBIDDEN)], [])
        for name, node in nodes(ast.Constant):
            self.assertNotIsInstance(node.value, (float, complex))
            self.assertNotIn("%", str(node.value))

    def test_local_names_are_none_of_the_imports_and_classes(self):
        for name, tree in TREES.items():
            taken = {part.name for part in tree.body if isinstance(part, ast.ClassDef)}
            taken |= {alias.name for part in tree.body if isinstance(part, ast.ImportFrom) for alias in part.names}
            local = {node.id for node in ast.walk(tree) if isinstance(node, ast.Name)
                     and not isinstance(node.ctx, ast.Load)}
            local |= {node.arg for node in ast.walk(tree) if isinstance(node, ast.arg)}
            with self.subTest(file=name):
                self.assertEqual(taken & local, set())

    def test_no_generator_expressions(self):
        # Once a class compares or has a length, any, all, sum and the like must not take a generator expression.
        self.assertEqual([(name, node.lineno) for name, node in nodes(ast.GeneratorExp)], [])

    def test_names_of_builtins(self):
        for name, node in nodes(ast.Name):
            if node.id in vars(builtins):
                with self.subTest(file=name, line=node.lineno):
                    self.assertIsInstance(node.ctx, ast.Load)
                    self.assertIn(node.id, BUILTINS)
        for name, node in nodes((ast.FunctionDef, ast.ClassDef, ast.arg)):
            own = node.arg if isinstance(node, ast.arg) else node.name
            self.assertFalse(own in vars(builtins), (name, own))


if __name__ == "__main__":
    unittest.main()
