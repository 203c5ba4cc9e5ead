"""What ../shared/LANGUAGE.md says of files, sizes, signs, imports and names, as far as it is told quickly."""

import ast
import builtins
import pathlib
import re
import unittest

FOLDER = pathlib.Path(__file__).resolve().parent.parent / "cellscript"
BUILTINS = set(
    "len range enumerate zip min max sum abs sorted reversed int str bool list tuple dict set isinstance ord repr any all "
    "divmod ValueError".split()
)
METHODS = set(
    "add append clear copy count endswith extend find get index insert isalnum isalpha isdigit islower isspace isupper items join keys "
    "ljust lower lstrip partition pop remove replace reverse rfind rjust rpartition rsplit rstrip setdefault split splitlines "
    "startswith strip update upper values zfill".split()
)
WORDS = re.compile(r"\b(register|mro|elements|open|input|law|type|typing|enum|dataclass|namedtuple|eval|exec|vars|globals|locals)\b")


def trees():
    """The name, the lines and the tree of each file of the package."""
    for path in sorted(FOLDER.rglob("*.py")):
        text = path.read_text()
        yield path.name, text, ast.parse(text)


def bound(node):
    """The names that a piece of code binds."""
    for part in ast.walk(node):
        if isinstance(part, (ast.FunctionDef, ast.ClassDef)):
            yield part.name
        if isinstance(part, ast.arg):
            yield part.arg
        if isinstance(part, ast.Name) and isinstance(part.ctx, ast.Store):
            yield part.id


class Language(unittest.TestCase):
    def test_nothing_but_files_of_the_program(self):
        found = [path for path in FOLDER.rglob("*") if "__pycache__" not in path.parts]
        self.assertEqual([path.name for path in found if path.suffix != ".py"], [])

    def test_sizes_and_signs(self):
        for name, text, tree in trees():
            lines = text.split("\n")
            self.assertLessEqual(len(lines), 400, name)
            self.assertLessEqual(max(map(len, lines)), 120, name)
            self.assertEqual([sign for sign in text if not " " <= sign <= "~" and sign != "\n"], [], name)
            for node in ast.walk(tree):
                if isinstance(node, ast.FunctionDef):
                    self.assertLessEqual(node.end_lineno - node.lineno + 1, 40, (name, node.name))

    def test_imports_are_of_the_package(self):
        for name, _, tree in trees():
            for node in ast.walk(tree):
                self.assertNotIsInstance(node, ast.Import, name)
                if isinstance(node, ast.ImportFrom):
                    self.assertEqual((node.module.split(".")[0], node.level), ("cellscript", 0), name)
                    self.assertTrue((FOLDER / (node.module.split(".")[1] + ".py")).exists(), name)

    def test_imports_name_the_file_that_defines_it_and_lead_in_no_ring(self):
        defined, follows = {}, {}
        for name, _, tree in trees():
            defined[name] = {row.name for row in tree.body if hasattr(row, "name")}
            defined[name] |= {target.id for row in tree.body if isinstance(row, ast.Assign) for target in row.targets}
            follows[name] = []
        for name, _, tree in trees():
            for node in ast.walk(tree):
                if isinstance(node, ast.ImportFrom):
                    file = node.module.split(".")[1] + ".py"
                    follows[name].append(file)
                    for alias in node.names:
                        self.assertIsNone(alias.asname, name)
                        self.assertIn(alias.name, defined[file], name)
        while follows:
            last = [name for name, files in follows.items() if not set(files) & set(follows)]
            self.assertNotEqual(last, [], follows)
            follows = {name: files for name, files in follows.items() if name not in last}

    def test_barred_names(self):
        barred = re.compile(r"_*(_wall|_pe_|_dcw_|_enum_|_cm_|_twin_re_|_lay_|_law_|_stub_|_sre|_WallAttr|_cold|_tuplegetter|_outside|_record|_written_out|_member_names)")
        for name, _, tree in trees():
            self.assertEqual([one for one in bound(tree) if barred.match(one) or not one.isascii()], [], name)
            self.assertEqual([one for one in bound(tree) if one.startswith("__") and one not in ("__init__", "__eq__", "__len__", "__repr__")], [], name)

    def test_names(self):
        for name, _, tree in trees():
            methods = {row.name for node in ast.walk(tree) if isinstance(node, ast.ClassDef) for row in node.body if hasattr(row, "name")}
            names = set(bound(tree)) - methods
            self.assertEqual(names & set(dir(builtins)), set(), name)
            imported = {alias.asname or alias.name for node in ast.walk(tree) if isinstance(node, ast.ImportFrom) for alias in node.names}
            self.assertEqual(names & imported, set(), name)
            read = {node.id for node in ast.walk(tree) if isinstance(node, ast.Name)}
            self.assertEqual((read & set(dir(builtins))) - BUILTINS, set(), name)

    def test_methods_and_words(self):
        own = {node.name for _, _, tree in trees() for node in ast.walk(tree) if isinstance(node, ast.FunctionDef)}
        for name, text, tree in trees():
            called = {node.func.attr for node in ast.walk(tree) if isinstance(node, ast.Call) and isinstance(node.func, ast.Attribute)}
            self.assertEqual(called - own - METHODS, set(), name)
            self.assertEqual(WORDS.findall(text), [], name)

    def test_exponents_are_written_out(self):
        for name, _, tree in trees():
            for node in ast.walk(tree):
                if isinstance(node, ast.BinOp) and isinstance(node.op, ast.Pow):
                    self.assertIsInstance(node.right, ast.Constant, name)

    def test_no_statements_outside_of_the_subset(self):
        barred = (
            ast.Global, ast.AsyncFunctionDef, ast.Lambda, ast.GeneratorExp, ast.Yield, ast.YieldFrom, ast.Div, ast.With, ast.AnnAssign,
        )
        for name, _, tree in trees():
            for node in ast.walk(tree):
                self.assertNotIsInstance(node, barred, name)
                if isinstance(node, ast.Constant):
                    self.assertNotIsInstance(node.value, (float, bytes, complex), name)
                    self.assertNotIn("%", node.value if isinstance(node.value, str) else "", name)


if __name__ == "__main__":
    unittest.main()
