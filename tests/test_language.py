import ast
import os
import re
import unittest

TOP = os.path.dirname(os.path.dirname(os.path.abspath(__file__)))
PACKAGE = os.path.join(TOP, "wayorring")
BARRED_WORDS = (
    "type typing typing_extensions enum Enum IntEnum StrEnum Flag IntFlag Generic Protocol ABC ABCMeta namedtuple"
    " NamedTuple TypedDict TYPE_CHECKING abstractmethod"
).split()
BARRED_NAMES = ("register", "mro", "elements", "open", "input", "law", "version_info", "with_traceback", "add_note")
BUILTINS = (
    "abs all any bool bytes chr dict divmod enumerate filter format frozenset getattr hasattr hash id input int"
    " isinstance iter len list map max min next object open ord pow print property range repr reversed round set"
    " setattr sorted str sum super tuple type vars zip"
).split()
# L12: not these, and not these with digits or underscores behind them.
KEPT_NAMES = r"^_(cold|tuplegetter|outside|record|written_out|member_names)[0-9_]*$"
KEPT_BEGINNINGS = r"^_(wall|pe_|dcw_|enum_|cm_|twin_re_|lay_|law_|stub_|sre|WallAttr)"
STATEMENTS = (
    ast.Assign, ast.AugAssign, ast.If, ast.While, ast.For, ast.Return, ast.Break, ast.Continue, ast.Pass, ast.Raise,
    ast.Assert, ast.Delete, ast.Nonlocal, ast.Match, ast.With, ast.Try, ast.Expr, ast.FunctionDef, ast.ClassDef,
    ast.ImportFrom,
)


def text_of(name):
    """The text of a file of the package."""
    with open(os.path.join(PACKAGE, name), encoding="utf-8") as file:
        return file.read()


def package_files():
    """Name and text of each file of the package."""
    names = sorted(name for name in os.listdir(PACKAGE) if name != "__pycache__")
    return [(name, text_of(name)) for name in names]


def bound_names(tree):
    """The names that a file gives to functions, classes, parameters, variables and attributes."""
    for node in ast.walk(tree):
        if isinstance(node, (ast.FunctionDef, ast.ClassDef)):
            yield node.name
        elif isinstance(node, ast.arg):
            yield node.arg
        elif isinstance(node, ast.Name) and isinstance(node.ctx, ast.Store):
            yield node.id
        elif isinstance(node, ast.Attribute) and isinstance(node.ctx, ast.Store):
            yield node.attr


class LanguageTest(unittest.TestCase):
    """The rules of the language that a text or a syntax tree shows at once."""

    def test_files(self):
        for name, text in package_files():
            self.assertRegex(name, r"^[a-z_]+\.py$")
            self.assertLessEqual(len(text.split("\n")) - 1, 399, name)
            self.assertTrue(text.endswith("\n"), name)

    def test_lines_and_characters(self):
        for name, text in package_files():
            for number, line in enumerate(text.split("\n"), start=1):
                self.assertLessEqual(len(line), 120, (name, number))
                self.assertRegex(line, "^[ -~]*$", (name, number))

    def test_functions_are_small(self):
        for name, text in package_files():
            for node in ast.walk(ast.parse(text)):
                if isinstance(node, ast.FunctionDef):
                    self.assertLessEqual(node.end_lineno - node.lineno + 1, 40, (name, node.name))

    def test_statements(self):
        for name, text in package_files():
            for node in ast.walk(ast.parse(text)):
                if isinstance(node, ast.stmt):
                    self.assertIsInstance(node, STATEMENTS, (name, node.lineno))

    def test_imports_name_the_file_that_defines_the_name(self):
        for name, text in package_files():
            for node in ast.walk(ast.parse(text)):
                if not isinstance(node, ast.ImportFrom):
                    continue
                self.assertEqual(node.level, 0, name)
                self.assertRegex(node.module, r"^wayorring\.[a-z]+$", name)
                source = text_of(node.module.split(".")[1] + ".py")
                for alias in node.names:
                    self.assertIsNone(alias.asname, name)
                    self.assertRegex(source, rf"(?m)^((def|class) {alias.name}\b|{alias.name} = )", name)

    def test_names(self):
        for name, text in package_files():
            for bound in bound_names(ast.parse(text)):
                self.assertNotIn(bound, BARRED_NAMES, name)
                self.assertNotIn(bound, BUILTINS, name)
                self.assertRegex(bound, r"^(_|_?[A-Za-z][A-Za-z0-9_]*|__init__)$", name)
                self.assertNotRegex(bound, KEPT_NAMES, name)
                self.assertNotRegex(bound, KEPT_BEGINNINGS, name)

    def test_local_names_are_no_imports_or_classes(self):
        for name, text in package_files():
            tree = ast.parse(text)
            taken = {node.name for node in tree.body if isinstance(node, ast.ClassDef)}
            for node in tree.body:
                if isinstance(node, ast.ImportFrom):
                    taken.update(alias.name for alias in node.names)
            for node in ast.walk(tree):
                if isinstance(node, ast.arg):
                    self.assertNotIn(node.arg, taken, name)
                elif isinstance(node, ast.Name) and isinstance(node.ctx, ast.Store):
                    self.assertNotIn(node.id, taken, name)

    def test_is_stands_beside_none_true_and_false_alone(self):
        for name, text in package_files():
            for node in ast.walk(ast.parse(text)):
                if isinstance(node, ast.Compare) and isinstance(node.ops[0], (ast.Is, ast.IsNot)):
                    self.assertIsInstance(node.comparators[0], ast.Constant, (name, node.lineno))
                    self.assertIn(node.comparators[0].value, (None, True, False), (name, node.lineno))

    def test_no_name_is_a_method_and_an_attribute(self):
        methods, attributes = set(), set()
        for name, text in package_files():
            for node in ast.walk(ast.parse(text)):
                if isinstance(node, ast.ClassDef):
                    methods.update(each.name for each in node.body if isinstance(each, ast.FunctionDef))
                elif isinstance(node, ast.Attribute) and isinstance(node.ctx, ast.Store):
                    attributes.add(node.attr)
        self.assertEqual(methods & attributes, set())

    def test_no_two_files_import_from_each_other(self):
        imports = {}
        for name, text in package_files():
            nodes = [node for node in ast.walk(ast.parse(text)) if isinstance(node, ast.ImportFrom)]
            imports[name[:-3]] = {node.module.split(".")[1] for node in nodes}
        while imports:
            free = [name for name, needed in imports.items() if not needed & set(imports)]
            self.assertTrue(free, imports)
            for name in free:
                del imports[name]

    def test_barred_words(self):
        for name, text in package_files():
            for word in BARRED_WORDS:
                self.assertIsNone(re.search(rf"\b{word}\b", text), (name, word))
            self.assertNotIn("%", text, name)


if __name__ == "__main__":
    unittest.main()
