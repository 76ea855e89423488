"""The files of the package keep to the subset of Python that the project uses.

The checks are narrower than the rules: what the package does not need is left out altogether.
"""

import ast
import builtins
import os
import unittest

import armlegs

FOLDER = os.path.dirname(armlegs.__file__)
STATEMENTS = (
    ast.Import, ast.ImportFrom, ast.FunctionDef, ast.ClassDef, ast.Assign, ast.If, ast.While, ast.For, ast.Return,
    ast.Raise, ast.Pass, ast.Expr, ast.Break, ast.Continue, ast.Delete, ast.Try,
)
EXPRESSIONS = (
    ast.BoolOp, ast.BinOp, ast.UnaryOp, ast.IfExp, ast.Dict, ast.ListComp, ast.DictComp, ast.Compare, ast.Call,
    ast.JoinedStr, ast.FormattedValue, ast.Constant, ast.Attribute, ast.Subscript, ast.Name, ast.List, ast.Tuple,
    ast.Slice, ast.Yield,
)
OPERATORS = (ast.Add, ast.Sub, ast.Mult, ast.FloorDiv, ast.Mod, ast.Pow, ast.LShift, ast.BitAnd)
CALLED = {
    "len", "range", "enumerate", "zip", "min", "max", "sum", "abs", "sorted", "int", "bool", "list", "tuple",
    "isinstance", "all", "any", "divmod", "super", "str",
}
METHODS = {
    "append", "extend", "get", "items", "values", "pop", "setdefault", "count", "index", "bit_length", "split", "join",
    "partition", "startswith", "endswith", "zfill",
}
CAUGHT = {
    "ArmError", "InvalidNumber", "InvalidOperation", "NothingToUndo", "Refused", "TooMany", "UnknownName",
}
DOUBLE = {
    "__init__", "__eq__", "__str__", "__len__", "__add__", "__sub__", "__mul__", "__neg__", "__bool__", "__contains__",
}
BARRED = {
    "type", "typing", "enum", "register", "mro", "elements", "open", "input", "law", "eval", "exec", "vars", "id",
    "dir", "help", "exit", "map", "next", "iter", "hash", "object",
}


def files():
    found = []
    for folder, folders, names in os.walk(FOLDER):
        folders[:] = [name for name in folders if name != "__pycache__"]
        found.extend(os.path.join(folder, name) for name in names)
    return sorted(found)


def parsed(path):
    with open(path, encoding="utf-8") as file:
        text = file.read()
    return text, ast.parse(text)


def bound_names(tree):
    """All names that are bound anywhere, each with its node."""
    for node in ast.walk(tree):
        if isinstance(node, ast.Name) and not isinstance(node.ctx, ast.Load):
            yield node.id, node
        elif isinstance(node, ast.arg):
            yield node.arg, node
        elif isinstance(node, (ast.FunctionDef, ast.ClassDef)):
            yield node.name, node


class TestLanguage(unittest.TestCase):
    def each(self):
        for path in files():
            text, tree = parsed(path)
            yield path, text, tree

    def test_files(self):
        for path in files():
            name = os.path.basename(path)
            self.assertTrue(name.endswith(".py") and name == name.lower(), path)
            self.assertTrue(os.path.exists(os.path.join(os.path.dirname(path), "__init__.py")), path)

    def test_sizes(self):
        for path, text, tree in self.each():
            lines = text.split("\n")
            self.assertLess(len(lines), 400)
            self.assertTrue(all(len(line) <= 120 and line == line.rstrip() for line in lines))
            self.assertTrue(all(char == "\n" or " " <= char <= "~" for char in text))
            for node in ast.walk(tree):
                if isinstance(node, ast.FunctionDef):
                    self.assertLessEqual(node.end_lineno - node.lineno + 1, 40, node.name)

    def test_parts(self):
        for path, text, tree in self.each():
            for node in ast.walk(tree):
                if isinstance(node, ast.stmt):
                    self.assertIsInstance(node, STATEMENTS, ast.dump(node))
                if isinstance(node, ast.expr):
                    self.assertIsInstance(node, EXPRESSIONS, ast.dump(node))
                if isinstance(node, ast.BinOp):
                    self.assertIsInstance(node.op, OPERATORS)
                    if isinstance(node.op, ast.Pow):
                        self.assertIsInstance(node.right, ast.Constant)
                        self.assertTrue(0 <= node.right.value <= 64)
                if isinstance(node, ast.Constant) and node.value is not None:
                    self.assertIn(type(node.value), (int, str, bool))
                if isinstance(node, ast.Compare):
                    for op, right in zip(node.ops, node.comparators):
                        if isinstance(op, (ast.Is, ast.IsNot)):
                            self.assertTrue(isinstance(right, ast.Constant) and right.value is None)

    def test_imports(self):
        modules = {}
        for path, text, tree in self.each():
            name = os.path.relpath(path, os.path.dirname(FOLDER))[:-3].replace(os.sep, ".")
            modules[name] = tree
        for name, tree in modules.items():
            ended = False
            for node in tree.body[1:]:
                if isinstance(node, ast.ImportFrom):
                    self.assertFalse(ended, name)
                    self.assertEqual(node.level, 0)
                    for told in node.names:
                        self.assertIsNone(told.asname)
                        if node.module == "math":
                            self.assertIn(told.name, ("gcd", "factorial"))
                        else:
                            self.assertIn(told.name, self.defined(modules[node.module]), (name, told.name))
                else:
                    ended = True
                    self.assertIsInstance(node, (ast.FunctionDef, ast.ClassDef, ast.Assign), name)

    def defined(self, tree):
        names = [node.name for node in tree.body if isinstance(node, (ast.FunctionDef, ast.ClassDef))]
        return names + [node.targets[0].id for node in tree.body if isinstance(node, ast.Assign)]

    def test_names(self):
        for path, text, tree in self.each():
            taken = {told.name for node in tree.body if isinstance(node, ast.ImportFrom) for told in node.names}
            taken |= {node.name for node in tree.body if isinstance(node, (ast.FunctionDef, ast.ClassDef))}
            tops = {id(node) for node in tree.body}
            for name, node in bound_names(tree):
                self.assertNotIn(name, BARRED)
                self.assertNotIn(name, dir(builtins))
                if name.startswith("__"):
                    self.assertIn(name, DOUBLE)
                if id(node) not in tops and not isinstance(node, ast.FunctionDef):
                    self.assertNotIn(name, taken, (path, name))
            names = self.defined(tree)
            self.assertEqual(len(names), len(set(names)))

    def test_calls(self):
        own = set()
        for path, text, tree in self.each():
            own |= {node.name for node in ast.walk(tree) if isinstance(node, (ast.FunctionDef, ast.ClassDef))}
        for path, text, tree in self.each():
            for node in ast.walk(tree):
                if isinstance(node, ast.Call):
                    self.assertFalse([given for given in node.args if isinstance(given, ast.Starred)])
                    if isinstance(node.func, ast.Name):
                        self.assertIn(node.func.id, own | CALLED | {"cls", "gcd", "factorial"})
                    else:
                        self.assertIsInstance(node.func, ast.Attribute)
                        self.assertIn(node.func.attr, own | METHODS | {"__init__"})
                    named = {told.arg for told in node.keywords}
                    self.assertLessEqual(named, {"key", "reverse", "default", "calls"})

    def test_members(self):
        # Names of class methods and properties mean nothing else in any class.
        found = {"classmethod": set(), "property": set(), "plain": set(), "attributes": set()}
        for path, text, tree in self.each():
            for node in ast.walk(tree):
                if isinstance(node, ast.ClassDef):
                    for method in node.body:
                        if isinstance(method, ast.FunctionDef):
                            kinds = [told.id for told in method.decorator_list] or ["plain"]
                            found[kinds[0]].add(method.name)
                if isinstance(node, ast.Attribute) and isinstance(node.ctx, ast.Store):
                    found["attributes"].add(node.attr)
        for kind, names in found.items():
            for other, more in found.items():
                if kind != other and kind in ("classmethod", "property"):
                    self.assertEqual(names & more, set(), (kind, other))

    def test_handlers(self):
        # Own errors alone are caught, each name of a caught error once in its function.
        for path, text, tree in self.each():
            for node in ast.walk(tree):
                if isinstance(node, ast.Try):
                    self.assertEqual(node.finalbody, [])
                    for handler in node.handlers:
                        caught = handler.type.elts if isinstance(handler.type, ast.Tuple) else [handler.type]
                        self.assertLessEqual({one.id for one in caught}, CAUGHT)
                    names = [handler.name for handler in node.handlers if handler.name]
                    self.assertEqual(len(names), len(set(names)))

    def test_functions(self):
        for path, text, tree in self.each():
            for node in ast.walk(tree):
                if isinstance(node, ast.FunctionDef):
                    for told in node.decorator_list:
                        self.assertIn(told.id, ("property", "classmethod"))
                    self.assertIsNone(node.args.vararg or node.args.kwarg or node.returns)
                    double = node.name.startswith("__")
                    self.assertTrue(double or ast.get_docstring(node), (path, node.name))


if __name__ == "__main__":
    unittest.main()
