"""The package's files keep to the narrow part of Python that is asked for, as far as a short look can tell."""

import ast
import builtins
import re
import unittest
from pathlib import Path

PACKAGE = Path(__file__).resolve().parent.parent / "leadround"
FILES = sorted(PACKAGE.glob("*.py"))

NODES = """Module Expr Constant ImportFrom alias FunctionDef arguments arg ClassDef Assign AugAssign If While For Return
Break Continue Pass Raise Try ExceptHandler Call Name Attribute Subscript Slice List Tuple Dict Load Store BinOp UnaryOp
BoolOp Compare IfExp ListComp comprehension Lambda keyword JoinedStr FormattedValue Add Sub Mult FloorDiv Mod Pow BitAnd
BitOr BitXor LShift RShift Invert Not USub UAdd And Or Eq NotEq Lt LtE Gt GtE Is IsNot In NotIn""".split()

BUILTINS = """len range enumerate zip min max sum abs sorted reversed int str bool list tuple dict set isinstance ord repr
any all divmod Exception ValueError KeyError IndexError LookupError ZeroDivisionError""".split()

METHODS = """append clear copy count endswith extend find get index insert isalnum isalpha isdigit islower isspace isupper
items join keys ljust lower lstrip partition pop remove replace reverse rfind rjust rpartition rsplit rstrip setdefault
split splitlines startswith strip update upper values zfill bit_length""".split()

WORDS = """type typing typing_extensions enum Enum IntEnum StrEnum Flag IntFlag Generic Protocol ABC ABCMeta namedtuple
NamedTuple TypedDict TYPE_CHECKING abstractmethod""".split()


def names_bound(tree):
    bound = set()
    for node in ast.walk(tree):
        if isinstance(node, (ast.FunctionDef, ast.ClassDef)):
            bound.add(node.name)
        elif isinstance(node, ast.arg):
            bound.add(node.arg)
        elif isinstance(node, ast.alias):
            bound.add(node.asname or node.name)
        elif isinstance(node, ast.Name) and isinstance(node.ctx, ast.Store):
            bound.add(node.id)
        elif isinstance(node, ast.ExceptHandler) and node.name:
            bound.add(node.name)
    return bound


def parsed():
    texts = [(path.name, path.read_text(encoding="utf-8")) for path in FILES]
    return [(name, text, ast.parse(text)) for name, text in texts]


class Language(unittest.TestCase):
    def test_the_package_holds_plain_files_alone(self):
        self.assertIn("__init__.py", [path.name for path in FILES])
        for path in PACKAGE.iterdir():
            if path.name != "__pycache__":
                self.assertRegex(path.name, r"^([a-z][a-z0-9_]*|__init__)\.py$")

    def test_signs_and_sizes(self):
        for file, text, tree in parsed():
            self.assertRegex(text, r"\A[ -~\n]*\Z", file)
            lines = text.split("\n")
            self.assertLessEqual(len(lines), 400, file)
            self.assertLessEqual(max(len(line) for line in lines), 120, file)
            for node in ast.walk(tree):
                if isinstance(node, ast.FunctionDef):
                    self.assertLessEqual(node.end_lineno - node.lineno + 1, 40, (file, node.name))

    def test_words(self):
        for file, text, tree in parsed():
            self.assertEqual(set(re.findall(r"\w+", text)) & set(WORDS), set(), file)
            self.assertIsNone(re.search("dataclass|overload|contextmanager", text), file)

    def test_statements_and_expressions(self):
        for file, text, tree in parsed():
            self.assertEqual({type(node).__name__ for node in ast.walk(tree)} - set(NODES), set(), file)

    def test_imports(self):
        for file, text, tree in parsed():
            for node in ast.walk(tree):
                if isinstance(node, ast.ImportFrom):
                    self.assertIn(node, tree.body, file)
                    self.assertRegex(node.module, r"^leadround\.[a-z_]+$", file)
                    top = ast.parse((PACKAGE / (node.module.split(".")[1] + ".py")).read_text(encoding="utf-8")).body
                    defined = [made.name for made in top if isinstance(made, (ast.FunctionDef, ast.ClassDef))]
                    for name in node.names:
                        self.assertIn(name.name, defined, file)

    def test_names(self):
        for file, text, tree in parsed():
            bound = names_bound(tree)
            for name in bound:
                self.assertRegex(name, r"^([A-Za-z][A-Za-z0-9_]*|__init__)$", file)
                self.assertNotIn(name, dir(builtins), file)
            used = {node.id for node in ast.walk(tree) if isinstance(node, ast.Name)}
            self.assertEqual(used - bound - set(BUILTINS), set(), file)

    def test_each_name_is_bound_once_at_the_top(self):
        for file, text, tree in parsed():
            tops = [node.name for node in tree.body if isinstance(node, (ast.FunctionDef, ast.ClassDef))]
            tops += [name.name for node in tree.body if isinstance(node, ast.ImportFrom) for name in node.names]
            self.assertEqual(len(tops), len(set(tops)), file)
            for node in tree.body:
                if isinstance(node, ast.FunctionDef):
                    self.assertEqual(names_bound(node) & set(tops), {node.name}, (file, node.name))

    def test_no_two_files_draw_from_one_another(self):
        drawn = {}
        for file, text, tree in parsed():
            modules = [node.module for node in ast.walk(tree) if isinstance(node, ast.ImportFrom)]
            drawn[file] = {module.split(".")[1] + ".py" for module in modules}
        while drawn:
            ends = [file for file in drawn if not drawn[file]]
            self.assertNotEqual(ends, [], drawn)
            drawn = {file: drawn[file] - set(ends) for file in drawn if file not in ends}

    def test_narrow_forms(self):
        for file, text, tree in parsed():
            for node in ast.walk(tree):
                if isinstance(node, ast.BinOp) and isinstance(node.op, ast.Pow):
                    self.assertIn(getattr(node.right, "value", None), range(65), file)
                if isinstance(node, ast.Assign):
                    self.assertEqual(len(node.targets), 1, file)
                    self.assertNotIsInstance(node.targets[0], (ast.Tuple, ast.List), file)
                if isinstance(node, ast.Compare) and isinstance(node.ops[0], (ast.Is, ast.IsNot)):
                    self.assertIn(ast.unparse(node.comparators[0]), ["None", "True", "False"], file)
                if isinstance(node, ast.ListComp):
                    self.assertEqual(len(node.generators), 1, file)
                    self.assertLessEqual(len(node.generators[0].ifs), 1, file)
                if isinstance(node, ast.FormattedValue):
                    self.assertIsInstance(node.value, ast.Name, file)
                    self.assertIsNone(node.format_spec, file)
                if isinstance(node, ast.Constant):
                    self.assertIn(type(node.value), [int, str, bool, type(None)], file)
                    self.assertNotIn("%", str(node.value), file)

    def test_methods(self):
        own = set()
        for file, text, tree in parsed():
            for node in ast.walk(tree):
                if isinstance(node, ast.ClassDef):
                    own |= {made.name for made in node.body if isinstance(made, ast.FunctionDef)}
        for file, text, tree in parsed():
            for node in ast.walk(tree):
                if isinstance(node, ast.Call) and isinstance(node.func, ast.Attribute):
                    self.assertIn(node.func.attr, METHODS + sorted(own), file)


if __name__ == "__main__":
    unittest.main()
