"""LANGUAGE.md: the rules for the files of the package that a look at the code can tell."""

import ast
import builtins
import pathlib
import re
import unittest

PACKAGE = pathlib.Path(__file__).resolve().parent.parent / "keptnights"
LIBRARY = {"heapq": {"heappush", "heappop", "heapify", "heapreplace", "heappushpop"},
           "math": {"gcd", "lcm", "isqrt", "comb", "perm", "factorial"}}
BUILTINS = set("""len range enumerate zip min max sum abs sorted reversed int str bool list tuple dict set isinstance
    ord repr any all divmod iter property ValueError""".split())
METHODS = set("""append clear copy count endswith extend find get index insert isalnum isalpha isdigit islower isspace
    isupper items join keys ljust lower lstrip partition pop remove replace reverse rfind rjust rpartition rsplit rstrip
    setdefault split splitlines startswith strip update upper values zfill bit_length""".split())
DUNDERS = set("""__init__ __eq__ __repr__ __str__ __len__ __iter__ __contains__ __or__ __and__ __sub__ __enter__
    __exit__""".split())
NO_NAMES = set("""mro elements open input law version_info with_traceback add_note register attrgetter breakpoint
    builtins compile copyright credits delattr dir eval exec exit gc getattr globals hasattr help id importlib license
    locals methodcaller os quit setattr super type vars sys""".split())
NO_WORDS = set("""type typing typing_extensions enum Enum IntEnum StrEnum Flag IntFlag Generic Protocol ABC ABCMeta
    namedtuple NamedTuple TypedDict TYPE_CHECKING abstractmethod dataclass overload contextmanager""".split())
# LANGUAGE.md allows some of these under conditions; the package has needed none of them so far.
NODES = (ast.AsyncFunctionDef, ast.AsyncFor, ast.AsyncWith, ast.Await, ast.Yield, ast.YieldFrom, ast.GeneratorExp,
         ast.SetComp, ast.Set, ast.Global, ast.Nonlocal, ast.Div, ast.MatMult, ast.Starred, ast.Match,
         ast.NamedExpr, ast.AnnAssign, ast.Import, ast.Lambda, ast.Assert, ast.Delete)
AT_ONCE = {"zip", "enumerate", "reversed"}


def called(node):
    """The name of the function that a node calls, None for other nodes."""
    return node.func.id if isinstance(node, ast.Call) and isinstance(node.func, ast.Name) else None


def bound_names(tree):
    """The parameters and the local variables of a tree."""
    names = [node.arg for node in ast.walk(tree) if isinstance(node, ast.arg)]
    return names + [node.id for node in ast.walk(tree) if isinstance(node, ast.Name) and isinstance(node.ctx, ast.Store)]


class TestLanguage(unittest.TestCase):
    def setUp(self):
        self.trees = {path.stem: ast.parse(path.read_text(encoding="utf-8")) for path in PACKAGE.glob("*.py")}
        self.methods = {node.name for tree in self.trees.values() for one in ast.walk(tree)
                        if isinstance(one, ast.ClassDef) for node in one.body if isinstance(node, ast.FunctionDef)}

    def nodes(self, *kinds):
        for name, tree in self.trees.items():
            for node in ast.walk(tree):
                if isinstance(node, kinds):
                    yield f"{name}.py:{getattr(node, 'lineno', 0)}", node

    def test_files(self):
        for path in PACKAGE.iterdir():
            if path.name != "__pycache__":
                self.assertTrue(re.fullmatch(r"[a-z_0-9]+\.py", path.name), path.name)
                text = path.read_text(encoding="utf-8")
                lines = text.split("\n")
                self.assertTrue(re.fullmatch(r"[ -~\n]*", text), path.name)
                self.assertLess(len(lines), 400)
                self.assertLessEqual(max(map(len, lines)), 120, path.name)

    def test_functions_have_at_most_40_lines(self):
        for place, node in self.nodes(ast.FunctionDef):
            self.assertLessEqual(node.end_lineno - node.lineno + 1, 40, place)
            self.assertTrue(ast.get_docstring(node) or node.name.startswith("__"), place)

    def test_imports(self):
        for place, node in self.nodes(ast.ImportFrom):
            names = {alias.name for alias in node.names}
            self.assertTrue(node.level == 0 and all(alias.asname is None for alias in node.names), place)
            if node.module in LIBRARY:
                self.assertLessEqual(names, LIBRARY[node.module], place)
            else:
                package, module = node.module.split(".")
                defined = {one.name for one in self.trees[module].body if isinstance(one, (ast.FunctionDef, ast.ClassDef))}
                defined |= {one.targets[0].id for one in self.trees[module].body if isinstance(one, ast.Assign)}
                self.assertTrue(package == "keptnights" and names <= defined, place)

    def test_all_that_is_imported_is_used(self):
        for name, tree in self.trees.items():
            used = {node.id for node in ast.walk(tree) if isinstance(node, ast.Name)}
            for node in tree.body:
                if isinstance(node, ast.ImportFrom):
                    self.assertLessEqual({alias.name for alias in node.names}, used, name)

    def test_no_two_files_import_from_each_other(self):
        later = {name: {node.module.split(".")[-1] for node in tree.body if isinstance(node, ast.ImportFrom)}
                 for name, tree in self.trees.items()}
        placed = set()
        while set(later) - placed:
            free = {name for name in later if name not in placed and not (later[name] & set(later)) - placed}
            self.assertTrue(free, "imports go round")
            placed |= free

    def test_module_level(self):
        for name, tree in self.trees.items():
            above = set()
            for node in tree.body:
                text = isinstance(node, ast.Expr) and node is tree.body[0]
                if isinstance(node, ast.FunctionDef):
                    above.add(node.name)
                # A table may have functions that are defined above it among its values.
                if isinstance(node, ast.Assign) and isinstance(node.value, ast.Dict):
                    for key, value in zip(node.value.keys, node.value.values):
                        ast.literal_eval(key)
                        if isinstance(value, ast.Name):
                            self.assertIn(value.id, above, name)
                        else:
                            ast.literal_eval(value)
                elif isinstance(node, ast.Assign):
                    ast.literal_eval(node.value)
                self.assertTrue(text or isinstance(node, (ast.ImportFrom, ast.FunctionDef, ast.ClassDef, ast.Assign)), name)

    def test_kinds_of_statements_and_expressions(self):
        for place, node in self.nodes(*NODES):
            self.fail(f"{place}: {type(node).__name__}")
        for place, node in self.nodes(ast.Constant):
            self.assertNotIsInstance(node.value, (float, complex), place)
            self.assertFalse(isinstance(node.value, str) and "%" in node.value, place)
        for place, node in self.nodes(ast.Compare):
            for sign, right in zip(node.ops, node.comparators):
                if isinstance(sign, (ast.Is, ast.IsNot)):
                    self.assertTrue(isinstance(right, ast.Constant) and right.value in (None, True, False), place)

    def test_only_own_errors_are_caught(self):
        own = {node.name for node in self.trees["errors"].body if isinstance(node, ast.ClassDef)}
        for place, node in self.nodes(ast.Try):
            self.assertFalse(node.finalbody or node.orelse, place)
            for handler in node.handlers:
                self.assertTrue(isinstance(handler.type, ast.Name) and handler.type.id in own, place)
                self.assertIsNone(handler.name, place)

    def test_errors_are_raised_on_the_spot(self):
        own = {node.name for node in self.trees["errors"].body if isinstance(node, ast.ClassDef)}
        handled = {id(node) for _, handler in self.nodes(ast.ExceptHandler) for node in ast.walk(handler)}
        for place, node in self.nodes(ast.Raise):
            self.assertIsNone(node.cause, place)
            self.assertTrue(called(node.exc) in own or node.exc is None and id(node) in handled, place)

    def test_what_blocks_do_when_they_end(self):
        made = {name: node for _, tree in self.trees.items() for node in tree.body for name in [getattr(node, "name", None)]}
        for place, node in self.nodes(ast.With):
            for item in node.items:
                methods = {one.name for one in made[called(item.context_expr)].body if isinstance(one, ast.FunctionDef)}
                self.assertLessEqual({"__enter__", "__exit__"}, methods, place)
        for place, node in self.nodes(ast.FunctionDef):
            if node.name == "__exit__":
                self.assertEqual([arg.arg for arg in node.args.args], ["self", "kind", "value", "trace"], place)
                for row in ast.walk(node):
                    if isinstance(row, ast.stmt) and row is not node:
                        plain = isinstance(row, ast.Assign) and isinstance(row.value, (ast.Attribute, ast.Constant))
                        asked = isinstance(row, ast.If) and ast.unparse(row.test) == "kind is not None" and not row.orelse
                        self.assertTrue(plain or asked, place)

    def test_equality_asks_for_the_class_first(self):
        for place, node in self.nodes(ast.FunctionDef):
            if node.name == "__eq__":
                first = ast.unparse(node.body[0])
                self.assertRegex(first, r"^(return isinstance\(other, \w+\) and |if not isinstance\(other, \w+\):\n)", place)

    def test_a_name_that_is_a_property_is_nothing_else(self):
        properties = {node.name for _, node in self.nodes(ast.FunctionDef) if node.decorator_list}
        stored = {node.attr for _, node in self.nodes(ast.Attribute) if isinstance(node.ctx, ast.Store)}
        plain = {node.name for _, node in self.nodes(ast.FunctionDef) if not node.decorator_list}
        self.assertFalse(properties & (stored | plain))

    def test_names(self):
        for name, tree in self.trees.items():
            outer = {alias.name for node in tree.body if isinstance(node, ast.ImportFrom) for alias in node.names}
            outer |= {node.name for node in tree.body if isinstance(node, ast.ClassDef)}
            for word in bound_names(tree) + [one.name for one in tree.body if isinstance(one, ast.FunctionDef)]:
                self.assertNotIn(word, outer | set(dir(builtins)) - {"_"} | NO_NAMES, name)
                self.assertTrue(word == "_" or re.fullmatch(r"_?[A-Za-z][A-Za-z0-9_]*", word), name)

    def test_functions_of_the_language(self):
        for name, tree in self.trees.items():
            known = set(bound_names(tree)) | {one.name for one in ast.walk(tree) if hasattr(one, "name")}
            for node in ast.walk(tree):
                if isinstance(node, ast.Name) and node.id not in known:
                    self.assertIn(node.id, BUILTINS, f"{name}.py:{node.lineno}")
                if called(node) in BUILTINS:
                    self.assertFalse(node.keywords, f"{name}.py:{node.lineno}")

    def test_methods(self):
        attributes = {node.attr for _, node in self.nodes(ast.Attribute) if isinstance(node.ctx, ast.Store)}
        for place, node in self.nodes(ast.Attribute):
            self.assertNotIn(node.attr, NO_NAMES, place)
            self.assertIn(node.attr, METHODS | self.methods | attributes, place)
        for place, node in self.nodes(ast.ClassDef):
            own = [one for one in node.body if isinstance(one, ast.FunctionDef)]
            stored = {one.attr for one in ast.walk(node) if isinstance(one, ast.Attribute) and isinstance(one.ctx, ast.Store)}
            self.assertFalse(stored & {one.name for one in own}, place)
            for one in own:
                self.assertTrue(not one.name.startswith("__") or one.name in DUNDERS, place)
                self.assertTrue(all(ast.unparse(some) == "property" for some in one.decorator_list), place)
            self.assertEqual(len(own), len({one.name for one in own}), place)

    def test_what_is_iterated_at_once(self):
        for _, node in self.nodes(ast.AST):
            for child in ast.iter_child_nodes(node):
                if called(child) in AT_ONCE:
                    at_once = isinstance(node, (ast.For, ast.comprehension)) or called(node) in ("list", "tuple")
                    self.assertTrue(at_once, ast.unparse(child))

    def test_words(self):
        for path in PACKAGE.glob("*.py"):
            text = re.sub(r'""".*?"""|#[^\n]*', "", path.read_text(encoding="utf-8"), flags=re.S)
            self.assertFalse(set(re.findall(r"\w+", text)) & NO_WORDS, path.name)
            self.assertNotIn("_wall", path.read_text(encoding="utf-8"))
