"""LANGUAGE.md, L5 and L28: what operators, properties, == and len run changes nothing and calls nothing held."""

import ast
import pathlib
import unittest

PACKAGE = pathlib.Path(__file__).resolve().parent.parent / "keptnights"
# These double-underscore methods may change their own object; all others are looked at.
FREE = {"__init__", "__enter__", "__exit__", "__call__", "__setitem__"}
CHANGES = {"append", "extend", "insert", "pop", "remove", "clear", "sort", "reverse", "update", "setdefault",
           "add", "discard"}
MADE = (ast.List, ast.Dict, ast.ListComp, ast.DictComp)


def is_stored(node):
    return isinstance(node.ctx, (ast.Store, ast.Del))


class Code:
    """The functions and methods of a package, and which ones its operators and properties run."""

    def __init__(self, trees):
        self.trees = trees
        self.attributes = {node.attr for tree in trees.values() for node in ast.walk(tree)
                           if isinstance(node, ast.Attribute) and is_stored(node)}
        self.methods = {}
        self.known = {file: {} for file in trees}
        self.roots = []
        for file, tree in trees.items():
            for node in tree.body:
                if isinstance(node, ast.FunctionDef):
                    self.known[file][node.name] = (file, node)
                elif isinstance(node, ast.ClassDef):
                    self.add_class(file, node)
        for file, tree in trees.items():
            for node in tree.body:
                if isinstance(node, ast.ImportFrom) and node.module.split(".")[0] == "keptnights":
                    there = self.known[node.module.split(".")[1]]
                    self.known[file].update({alias.name: there[alias.name] for alias in node.names if alias.name in there})

    def add_class(self, file, made):
        self.known[file][made.name] = (file, made)
        for node in made.body:
            if isinstance(node, ast.FunctionDef):
                self.methods.setdefault(node.name, []).append((file, node))
                if node.name.startswith("__") and node.name not in FREE or node.decorator_list:
                    self.roots.append((file, node))

    def calls_of(self, file, function):
        """The functions, methods and constructors of the package that a function can call."""
        for node in ast.walk(function):
            if isinstance(node, ast.Call) and isinstance(node.func, ast.Attribute):
                yield from self.methods.get(node.func.attr, [])
            elif isinstance(node, ast.Call) and isinstance(node.func, ast.Name) and node.func.id in self.known[file]:
                where, found = self.known[file][node.func.id]
                if isinstance(found, ast.ClassDef):
                    yield from [(where, one) for one in found.body
                                if isinstance(one, ast.FunctionDef) and one.name == "__init__"]
                else:
                    yield where, found

    def run(self):
        """All that operators, properties, == and len run."""
        found, waiting = [], list(self.roots)
        while waiting:
            file, function = waiting.pop()
            if not any(function is other for _, other in found):
                found.append((file, function))
                waiting.extend(self.calls_of(file, function))
        return found

    def faults(self):
        """What they run against the rules, as pairs (file:row, what)."""
        return [(f"{file}:{row}", what) for file, function in self.run() for row, what in self.faults_of(function)]

    def faults_of(self, function):
        names = {node.arg for node in ast.walk(function) if isinstance(node, ast.arg)}
        made = made_names(function, names)
        names |= {node.id for node in ast.walk(function) if isinstance(node, ast.Name) and is_stored(node)}
        for node in ast.walk(function):
            what = self.fault(function, node, names, made)
            if what:
                yield node.lineno, f"{function.name}: {what}"

    def fault(self, function, node, names, made):
        own = isinstance(getattr(node, "value", None), ast.Name)
        if isinstance(node, ast.Call) and isinstance(node.func, ast.Attribute):
            if node.func.attr in self.attributes:
                return f"calls {node.func.attr}, which is an attribute"
            held = node.func.value
            if node.func.attr in CHANGES and not (isinstance(held, ast.Name) and held.id in made):
                return f"calls {node.func.attr} of what it did not create"
        elif isinstance(node, ast.Call) and not (isinstance(node.func, ast.Name) and node.func.id not in names):
            return "calls what it is passed or holds"
        elif isinstance(node, ast.Attribute) and is_stored(node):
            if function.name != "__init__" or not own or node.value.id != function.args.args[0].arg:
                return f"changes {node.attr}"
        elif isinstance(node, ast.Subscript) and is_stored(node) and not (own and node.value.id in made):
            return "changes an item of what it did not create"
        elif isinstance(node, ast.AugAssign) and isinstance(node.target, ast.Name):
            if not isinstance(node.value, ast.Constant) or not isinstance(node.value.value, int):
                return f"+= at {node.target.id}"
        return None


def is_made(value):
    """Whether an expression creates a list or a dict."""
    if isinstance(value, ast.BinOp):
        return isinstance(value.op, ast.Mult) and isinstance(value.left, ast.List)
    if isinstance(value, ast.Call):
        return isinstance(value.func, ast.Name) and value.func.id in ("list", "dict", "sorted")
    return isinstance(value, MADE)


def made_names(function, parameters):
    """The local variables that are only ever assigned what a function creates."""
    plain, other = set(), set(parameters)
    for node in ast.walk(function):
        if isinstance(node, ast.Assign):
            for target in node.targets:
                for name in ast.walk(target):
                    if isinstance(name, ast.Name) and is_stored(name):
                        (plain if name is target and is_made(node.value) else other).add(name.id)
        elif isinstance(node, (ast.For, ast.comprehension)):
            other |= {name.id for name in ast.walk(node.target) if isinstance(name, ast.Name)}
    return plain - other


CHECKS = '''
from keptnights.errors import BadItem
def want_right(marks, limit):
    if not all(marks):
        raise BadItem({wrong})
    found = [0]
    {change}
'''
ERRORS = '''
class BadItem(ValueError):
    def __init__(self, index):
        self.index = index
'''
USER = '''
from keptnights.checks import want_right
class Bag:
    def __init__(self, rows):
        want_right(rows, 4)
        self.rows = rows
    def __or__(self, other):
        return Bag(self.rows + other.rows)
'''


class TestOperators(unittest.TestCase):
    def faults_with(self, wrong="0", change="found.append(1)", user=USER):
        texts = {"errors": ERRORS, "checks": CHECKS.format(wrong=wrong, change=change), "bags": user}
        return Code({file: ast.parse(text) for file, text in texts.items()}).faults()

    def test_the_package(self):
        code = Code({path.stem: ast.parse(path.read_text(encoding="utf-8")) for path in PACKAGE.glob("*.py")})
        self.assertEqual(code.faults(), [])
        run = {function.name for _, function in code.run()}
        self.assertLessEqual({"__or__", "__and__", "__sub__", "__contains__", "__eq__", "__len__", "names", "fields",
                              "__init__", "copied_spans", "want_right", "first_wrong", "merged_spans"}, run)

    def test_a_method_called_like_an_attribute_is_found(self):
        self.assertEqual(self.faults_with(), [])
        self.assertEqual(self.faults_with("marks.index(False)"),
                         [("checks:5", "want_right: calls index, which is an attribute")])

    def test_it_is_found_in_properties_and_in_what_is_compared(self):
        for head in ("@property\n    def many(self)", "def __eq__(self, other)", "def __len__(self)"):
            user = USER.replace("def __or__(self, other)", head)
            self.assertEqual(len(self.faults_with("marks.index(False)", user=user)), 1)
            self.assertEqual(len(self.faults_with(user=user.replace("rows + other.rows", "rows.rows(2)"))), 1)
        user = USER.replace("def __or__(self, other)", "def both(self, other)")
        self.assertEqual(self.faults_with("marks.index(False)", user=user), [])

    def test_changes_are_found(self):
        for change in ("marks.append(1)", "marks[0] = 1", "limit.low = 1", "found = marks; found.append(1)",
                       "marks += found", "del marks[0]", "limit(3)", "marks[0](1)", "found[0].append(1)"):
            self.assertEqual(len(self.faults_with(change=change)), 1, change)
        for change in ("found[0] = 1", "found.pop()", "k = 1; k += 1", "more = found + marks"):
            self.assertEqual(self.faults_with(change=change), [], change)
