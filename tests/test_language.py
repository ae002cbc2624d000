"""Rules of the language that can be seen from a file of the package alone."""

import ast
import builtins
import pathlib
import unittest

PACKAGE = pathlib.Path(__file__).resolve().parent.parent / "numbertexts"
FILES = sorted(PACKAGE.glob("*.py"))

CALLED_BUILTINS = set(
    "len range enumerate zip min max sum abs sorted reversed int str bool list tuple dict set isinstance ord repr any "
    "all divmod iter next map super ValueError LookupError".split())
LIBRARY = {"heapq", "math", "itertools"}
BARRED_NODES = (
    ast.Global, ast.Await, ast.AsyncFunctionDef, ast.AsyncFor, ast.AsyncWith, ast.Div, ast.MatMult, ast.Import,
)
BARRED_NAMES = set("register mro elements open input law version_info with_traceback add_note".split())


def names_bound(tree):
    for node in ast.walk(tree):
        if isinstance(node, ast.Name) and isinstance(node.ctx, ast.Store):
            yield node.id
        elif isinstance(node, ast.arg):
            yield node.arg
        elif isinstance(node, ast.ClassDef):
            yield node.name
    methods = {id(node) for top in ast.walk(tree) if isinstance(top, ast.ClassDef) for node in top.body}
    for node in ast.walk(tree):
        if isinstance(node, ast.FunctionDef) and id(node) not in methods:
            yield node.name


class Language(unittest.TestCase):
    def each_file(self):
        for path in FILES:
            text = path.read_text()
            yield path, text, ast.parse(text)

    def test_the_folder_holds_plain_files_only(self):
        others = [path for path in PACKAGE.iterdir() if path.name != "__pycache__" and path not in FILES]
        self.assertEqual(others, [])
        for path in FILES:
            self.assertRegex(path.name, r"\A[a-z_][a-z0-9_]*\.py\Z")

    def test_sizes_and_characters(self):
        for path, text, tree in self.each_file():
            rows = text.split("\n")
            self.assertLessEqual(len(rows), 399, path)
            self.assertTrue(all(len(row) <= 120 for row in rows), path)
            self.assertTrue(all(character == "\n" or " " <= character <= "~" for character in text), path)
            for node in ast.walk(tree):
                if isinstance(node, ast.FunctionDef):
                    self.assertLessEqual(node.end_lineno - node.lineno + 1, 40, (path, node.name))

    def test_module_level_has_plain_rows_only(self):
        for path, text, tree in self.each_file():
            for node in tree.body:
                is_docstring = isinstance(node, ast.Expr) and isinstance(node.value, ast.Constant)
                kinds = (ast.ImportFrom, ast.FunctionDef, ast.ClassDef, ast.Assign)
                self.assertTrue(is_docstring or isinstance(node, kinds), (path, node.lineno))

    def test_imports(self):
        for path, text, tree in self.each_file():
            for node in ast.walk(tree):
                if isinstance(node, ast.ImportFrom):
                    is_own = node.level == 0 and node.module.startswith("numbertexts.")
                    self.assertTrue(is_own or node.module in LIBRARY, (path, node.lineno))
                    if is_own:
                        source = PACKAGE / (node.module.split(".")[1] + ".py")
                        defined = set(names_bound(ast.parse(source.read_text())))
                        self.assertLessEqual({name.name for name in node.names}, defined, (path, node.lineno))

    def test_no_barred_statement_or_sign(self):
        for path, text, tree in self.each_file():
            for node in ast.walk(tree):
                self.assertNotIsInstance(node, BARRED_NODES, (path, getattr(node, "lineno", None)))
                if isinstance(node, ast.BinOp) and isinstance(node.op, ast.Pow):
                    self.assertIsInstance(node.right, ast.Constant, (path, node.lineno))
                    self.assertTrue(0 <= node.right.value <= 64, (path, node.lineno))
                if isinstance(node, ast.AugAssign):
                    # Operators of classes may call any function, and change nothing but counters.
                    self.assertIsInstance(node.op, ast.Add, (path, node.lineno))
                    self.assertIsInstance(node.value, ast.Constant, (path, node.lineno))
                if isinstance(node, ast.Constant):
                    self.assertNotIsInstance(node.value, (float, complex), (path, node.lineno))
                    self.assertFalse(isinstance(node.value, str) and "%" in node.value, (path, node.lineno))

    def test_names(self):
        own = set(dir(builtins))
        for path, text, tree in self.each_file():
            imported = {name.name for node in ast.walk(tree) if isinstance(node, ast.ImportFrom) for name in node.names}
            for name in names_bound(tree):
                self.assertNotIn(name, own | imported | BARRED_NAMES, path)
            for node in ast.walk(tree):
                if isinstance(node, ast.Name) and node.id in own:
                    self.assertIn(node.id, CALLED_BUILTINS, (path, node.lineno))


if __name__ == "__main__":
    unittest.main()
