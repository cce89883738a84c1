"""How the package is written: sizes, signs, imports, statements, names and calls that it keeps to."""

import ast
import builtins
import pathlib
import unittest

PACKAGE = pathlib.Path(__file__).resolve().parent.parent / "recurwright"

BUILTINS = {
    "len", "range", "enumerate", "zip", "min", "max", "sum", "abs", "sorted", "reversed", "int", "str", "bool", "list",
    "tuple", "dict", "set", "isinstance", "ord", "repr", "any", "all", "divmod", "ValueError",
}
BUILTIN_METHODS = set(
    "append clear copy count endswith extend find get index insert isalnum isalpha isdigit islower isspace isupper items"
    " join keys ljust lower lstrip partition pop remove replace reverse rfind rjust rpartition rsplit rstrip setdefault"
    " split splitlines startswith strip update upper values zfill bit_length removeprefix".split())
NODES = (
    ast.Module, ast.Expr, ast.Constant, ast.ImportFrom, ast.alias, ast.FunctionDef, ast.arguments, ast.arg, ast.ClassDef,
    ast.Assign, ast.AugAssign, ast.Name, ast.Load, ast.Store, ast.Attribute, ast.Call, ast.keyword, ast.Return, ast.Raise,
    ast.If, ast.For, ast.While, ast.IfExp, ast.Compare, ast.BoolOp, ast.BinOp, ast.UnaryOp, ast.boolop, ast.operator,
    ast.cmpop, ast.Not, ast.USub, ast.Tuple, ast.List, ast.Dict, ast.Subscript, ast.Slice, ast.ListComp, ast.DictComp,
    ast.SetComp, ast.comprehension, ast.JoinedStr, ast.FormattedValue, ast.Break, ast.Continue, ast.Pass,
    ast.Try, ast.ExceptHandler,
)
BARRED = (ast.Div, ast.MatMult, ast.Pow)


def sources():
    return {path.name: path.read_text() for path in sorted(PACKAGE.glob("*.py"))}


def trees():
    return {name: ast.parse(text) for name, text in sources().items()}


def assigned(tree):
    """Each name that is bound in a tree but by imports, with the line."""
    for node in ast.walk(tree):
        if isinstance(node, ast.Name) and isinstance(node.ctx, ast.Store):
            yield node.id, node.lineno
        elif isinstance(node, ast.arg):
            yield node.arg, node.lineno


class LanguageTest(unittest.TestCase):
    def test_sizes_and_signs(self):
        for name, text in sources().items():
            lines = text.split("\n")
            self.assertLessEqual(len(lines), 399, name)
            self.assertLessEqual(max(len(line) for line in lines), 120, name)
            self.assertTrue(all(sign == "\n" or " " <= sign <= "~" for sign in text), name)
            for node in ast.walk(ast.parse(text)):
                if isinstance(node, ast.FunctionDef):
                    self.assertLessEqual(node.end_lineno - node.lineno + 1, 40, node.name)

    def test_only_plain_parts(self):
        for name, tree in trees().items():
            for node in ast.walk(tree):
                place = (name, getattr(node, "lineno", 0), type(node).__name__)
                self.assertIsInstance(node, NODES, place)
                self.assertNotIsInstance(node, BARRED, place)
                if isinstance(node, ast.Constant):
                    self.assertIsInstance(node.value, (int, str, type(None)), place)
                if isinstance(node, (ast.FunctionDef, ast.ClassDef)):
                    self.assertEqual(node.decorator_list, [], place)
                    self.assertIsNotNone(ast.get_docstring(node) or node.name == "__init__" or None, place)
                if isinstance(node, ast.BinOp) and isinstance(node.op, ast.Mod):
                    self.assertNotIsInstance(node.left, (ast.Constant, ast.JoinedStr), place)

    def test_only_own_errors_are_caught(self):
        own = {node.name for node in trees()["errors.py"].body if isinstance(node, ast.ClassDef)}
        for name, tree in trees().items():
            for node in ast.walk(tree):
                if isinstance(node, ast.ExceptHandler):
                    self.assertIn(ast.unparse(node.type), own, (name, node.lineno))
                    self.assertIsNone(node.name, (name, node.lineno))

    def test_no_percent_sign_in_strings(self):
        for name, tree in trees().items():
            for node in ast.walk(tree):
                if isinstance(node, ast.Constant) and isinstance(node.value, str):
                    self.assertNotIn("%", node.value, (name, node.lineno))

    def test_module_level(self):
        for name, tree in trees().items():
            self.assertIsNotNone(ast.get_docstring(tree), name)
            for node in tree.body[1:]:
                self.assertIsInstance(node, (ast.ImportFrom, ast.Assign, ast.FunctionDef, ast.ClassDef), name)

    def test_imports_name_the_defining_file(self):
        defined = {}
        for name, tree in trees().items():
            module = "recurwright." + name[:-3]
            defined[module] = {node.name for node in tree.body if isinstance(node, (ast.FunctionDef, ast.ClassDef))}
            defined[module] |= {node.targets[0].id for node in tree.body if isinstance(node, ast.Assign)}
        for name, tree in trees().items():
            for node in ast.walk(tree):
                if isinstance(node, ast.ImportFrom):
                    self.assertEqual(node.level, 0, name)
                    for each in node.names:
                        self.assertIn(each.name, defined[node.module], name)
                        self.assertIsNone(each.asname, name)

    def test_each_import_is_used(self):
        for name, tree in trees().items():
            imported = {each.name for node in tree.body if isinstance(node, ast.ImportFrom) for each in node.names}
            used = {node.id for node in ast.walk(tree) if isinstance(node, ast.Name)}
            self.assertEqual(imported - used, set(), name)

    def test_names(self):
        for name, tree in trees().items():
            barred = {each.name for node in tree.body if isinstance(node, ast.ImportFrom) for each in node.names}
            barred |= {node.name for node in tree.body if isinstance(node, ast.ClassDef)}
            barred |= set(dir(builtins))
            for word, line in assigned(tree):
                self.assertNotIn(word, barred, (name, line))

    def test_calls(self):
        own = {node.name for tree in trees().values() for node in ast.walk(tree) if isinstance(node, ast.FunctionDef)}
        for name, tree in trees().items():
            top = {node.name for node in tree.body if isinstance(node, (ast.FunctionDef, ast.ClassDef))}
            top |= {each.name for node in tree.body if isinstance(node, ast.ImportFrom) for each in node.names}
            for node in ast.walk(tree):
                if isinstance(node, ast.Call) and isinstance(node.func, ast.Name):
                    self.assertIn(node.func.id, BUILTINS | top, (name, node.lineno))
                if isinstance(node, ast.Call) and isinstance(node.func, ast.Attribute):
                    self.assertIn(node.func.attr, BUILTIN_METHODS | own, (name, node.lineno))

    def test_no_method_is_an_attribute_too(self):
        for name, tree in trees().items():
            for kind in [node for node in tree.body if isinstance(node, ast.ClassDef)]:
                methods = [node.name for node in kind.body if isinstance(node, ast.FunctionDef)]
                self.assertEqual(len(methods), len(set(methods)), kind.name)
                stored = {node.attr for node in ast.walk(kind)
                          if isinstance(node, ast.Attribute) and isinstance(node.ctx, ast.Store)}
                self.assertEqual(stored & set(methods), set(), (name, kind.name))
