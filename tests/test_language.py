"""Those rules of the language that a look at the package's files can decide. (L1 to L28 are told in shared/LANGUAGE.md.)"""

import ast
import builtins
import os
import re
import unittest

ROOT = os.path.dirname(os.path.dirname(os.path.abspath(__file__)))
PACKAGE = os.path.join(ROOT, "duskisles")

LIBRARY = {"heapq": "heappush heappop heapify heapreplace heappushpop", "math": "gcd lcm isqrt comb perm factorial",
           "itertools": "product combinations permutations"}
BUILTINS = """len range enumerate zip min max sum abs sorted reversed int str bool bytes list tuple dict set frozenset
    isinstance ord repr any all divmod map iter next super property staticmethod classmethod Exception ValueError TypeError
    KeyError IndexError LookupError ZeroDivisionError ArithmeticError OverflowError RuntimeError NotImplementedError
    AttributeError StopIteration NotImplemented""".split()
METHODS = """append clear copy count endswith extend find get index insert isalnum isalpha isdigit islower isspace isupper
    items join keys ljust lower lstrip partition pop remove replace reverse rfind rjust rpartition rsplit rstrip setdefault
    split splitlines startswith strip update upper values zfill bit_length add discard isascii""".split()
DUNDERS = """__init__ __eq__ __repr__ __str__ __len__ __enter__ __exit__ __call__ __iter__ __lt__ __le__ __gt__ __ge__ __ne__
    __add__ __sub__ __and__ __or__ __xor__ __neg__ __bool__ __contains__ __getitem__ __setitem__""".split()
NEVER = "register mro elements open input law version_info with_traceback add_note".split()
NOT_NAMED = """attrgetter breakpoint builtins compile copyright credits delattr dir eval exec exit gc getattr globals hasattr
    help id importlib license locals methodcaller os quit setattr super type vars sys""".split()
WORDS = """type typing typing_extensions enum Enum IntEnum StrEnum Flag IntFlag Generic Protocol ABC ABCMeta namedtuple
    NamedTuple TypedDict TYPE_CHECKING abstractmethod dataclass overload contextmanager""".split()
BAD_NAME = re.compile(r"^(__|_wall|_pe_|_dcw_|_enum_|_cm_|_twin_re_|_lay_|_law_|_stub_|_sre|_cold|_tuplegetter|_outside|"
                      r"_record|_written_out|_member_names)")
OF_BUILTINS = {name for kind in (str, int, list, dict, set, bytes, tuple) for name in dir(kind) if name[0] != "_"}
LISTS_ONLY = ("any", "all", "min", "max", "sum", "sorted")
STATEMENTS = (ast.Assign, ast.AugAssign, ast.If, ast.While, ast.For, ast.Return, ast.Break, ast.Continue, ast.Pass, ast.Raise,
              ast.Assert, ast.Delete, ast.With, ast.Try, ast.Expr, ast.FunctionDef, ast.ClassDef, ast.ImportFrom)


def files():
    """Yields the name, the text and the tree of each file of the package."""
    for name in sorted(os.listdir(PACKAGE)):
        if name != "__pycache__":
            with open(os.path.join(PACKAGE, name), encoding="utf-8", newline="") as file:
                text = file.read()
            yield name, text, ast.parse(text)


def functions(tree):
    return [node for node in ast.walk(tree) if isinstance(node, ast.FunctionDef)]


def parameters(node):
    found = node.args.posonlyargs + node.args.args + node.args.kwonlyargs
    return [each.arg for each in found + [node.args.vararg, node.args.kwarg] if each is not None]


def bound_names(tree):
    """All names that are bound: parameters, variables, functions, classes, imports."""
    names = [each.name for each in ast.walk(tree) if isinstance(each, (ast.FunctionDef, ast.ClassDef, ast.ExceptHandler))]
    names += [each.id for each in ast.walk(tree) if isinstance(each, ast.Name) and not isinstance(each.ctx, ast.Load)]
    names += [name for each in ast.walk(tree) if isinstance(each, (ast.FunctionDef, ast.Lambda)) for name in parameters(each)]
    return [name for name in names if name is not None]


def docstrings(tree):
    rows = [node.body[0].value for node in ast.walk(tree)
            if isinstance(node, (ast.Module, ast.ClassDef, ast.FunctionDef)) and node.body
            and isinstance(node.body[0], ast.Expr) and isinstance(node.body[0].value, ast.Constant)]
    return {id(row) for row in rows}


class LanguageTest(unittest.TestCase):

    def test_files(self):
        names = [name for name, _, _ in files()]
        self.assertIn("__init__.py", names)
        self.assertLessEqual(len(names), 100)
        for name, text, _ in files():
            self.assertRegex(name, r"^[a-z0-9_]+\.py$")
            self.assertLessEqual(text.count("\n"), 399, name)
            for number, line in enumerate(text.split("\n"), 1):
                self.assertLessEqual(len(line), 120, (name, number))
                self.assertRegex(line, r"^[ -~]*$", (name, number))

    def test_functions_have_at_most_forty_lines(self):
        for name, _, tree in files():
            for node in functions(tree):
                self.assertLessEqual(node.end_lineno - node.lineno + 1, 40, (name, node.name))

    def test_imports(self):
        above = {}
        trees = {name: tree for name, _, tree in files()}
        for name, tree in trees.items():
            above[name[:-3]] = []
            for node in ast.walk(tree):
                self.assertNotIsInstance(node, ast.Import, name)
                if isinstance(node, ast.ImportFrom):
                    self.assertIn(node, tree.body, name)
                    self.assertTrue(all(each.asname is None for each in node.names), name)
                    if node.module in LIBRARY:
                        self.assertTrue(all(each.name in LIBRARY[node.module].split() for each in node.names), name)
                        continue
                    self.assertRegex(node.module, r"^duskisles\.\w+$", name)
                    above[name[:-3]].append(node.module.split(".")[1])
                    self.defined(node, trees)
        for name in above:
            self.assertNotIn(name, self.reached(above, above[name]), "files that import from each other")

    def defined(self, node, trees):
        for each in node.names:
            body = trees[node.module.split(".")[1] + ".py"].body
            names = [row.name for row in body if isinstance(row, (ast.FunctionDef, ast.ClassDef))]
            names += [row.targets[0].id for row in body if isinstance(row, ast.Assign)]
            self.assertIn(each.name, names, "an import names the file that defines the name")

    def reached(self, above, names):
        found, ahead = [], list(names)
        while ahead:
            name = ahead.pop()
            if name not in found:
                found.append(name)
                ahead += above[name]
        return found

    def test_module_level(self):
        plain = (ast.Constant, ast.Tuple, ast.List, ast.Dict, ast.Load, ast.UnaryOp, ast.USub, ast.Name)
        for name, _, tree in files():
            bound = []
            for node in tree.body:
                if isinstance(node, ast.Assign):
                    self.assertTrue(all(isinstance(each, plain) for each in ast.walk(node.value)), (name, node.lineno))
                    self.assertEqual(len(node.targets), 1, (name, node.lineno))
                    bound.append(node.targets[0].id)
                elif isinstance(node, (ast.FunctionDef, ast.ClassDef)):
                    bound.append(node.name)
                elif isinstance(node, ast.ImportFrom):
                    bound += [each.name for each in node.names]
                else:
                    self.assertIn(id(getattr(node, "value", None)), docstrings(tree), (name, node.lineno))
            self.assertEqual(len(bound), len(set(bound)), f"{name} binds a name twice")
            # A parameter may have the name of a function of its file, as the interface wants it of `spots`.
            bound = [each for each in bound if each not in [node.name for node in tree.body if isinstance(node, ast.FunctionDef)]]
            inner = [each for node in functions(tree) for each in parameters(node)]
            inner += [each.id for node in functions(tree) for each in ast.walk(node)
                      if isinstance(each, ast.Name) and isinstance(each.ctx, ast.Store)]
            self.assertEqual([each for each in inner if each in bound], [], name)

    def test_statements_and_expressions(self):
        for name, _, tree in files():
            for node in ast.walk(tree):
                where = (name, getattr(node, "lineno", 0))
                if isinstance(node, ast.stmt):
                    self.assertIsInstance(node, STATEMENTS, where)
                self.assertNotIsInstance(node, (ast.Div, ast.Await, ast.AsyncFunctionDef, ast.NamedExpr), where)
                if isinstance(node, ast.Constant):
                    self.assertNotIsInstance(node.value, (float, complex), where)
                if isinstance(node, ast.Compare) and isinstance(node.ops[0], (ast.Is, ast.IsNot)):
                    self.assertTrue(isinstance(node.comparators[0], ast.Constant), where)
                if isinstance(node, ast.Call) and isinstance(node.func, ast.Name) and node.func.id in LISTS_ONLY:
                    self.assertNotIsInstance(node.args[0], ast.GeneratorExp, where)
                if isinstance(node, ast.Call) and isinstance(node.func, ast.Name) and node.func.id == "reversed":
                    # Chips have __getitem__, so it must be plain that what is reversed is no chip.
                    self.assertIn(getattr(getattr(node.args[0], "func", None), "id", ""), ("list", "tuple", "sorted", "range"), where)
                if isinstance(node, (ast.FunctionDef, ast.ClassDef)):
                    self.assertTrue(all(self.known(each) for each in node.decorator_list), where)

    def test_stars_in_calls(self):
        for name, _, tree in files():
            for node in ast.walk(tree):
                if not isinstance(node, ast.Call):
                    continue
                stars = [each.value for each in node.args if isinstance(each, ast.Starred)]
                for each in stars + [each.value for each in node.keywords if each.arg is None]:
                    plain = each.value if isinstance(each, ast.Attribute) else each
                    self.assertIsInstance(plain, (ast.Name, ast.Constant, ast.List, ast.Tuple, ast.Dict), (name, node.lineno))

    def known(self, decorator):
        if isinstance(decorator, ast.Attribute):
            return decorator.attr == "setter"
        return decorator.id in ("property", "classmethod", "staticmethod")

    def test_names(self):
        for name, _, tree in files():
            for each in bound_names(tree):
                self.assertTrue(each in DUNDERS or not BAD_NAME.match(each), (name, each))
                self.assertNotIn(each, NEVER + NOT_NAMED, name)
                if each not in DUNDERS:
                    self.assertFalse(hasattr(builtins, each), (name, each))
            for node in ast.walk(tree):
                if isinstance(node, ast.Attribute):
                    self.assertNotIn(node.attr, NEVER + ["args", "format", "format_map"], name)
                if isinstance(node, ast.Name) and isinstance(node.ctx, ast.Load) and hasattr(builtins, node.id):
                    self.assertIn(node.id, BUILTINS, (name, node.lineno))

    def test_methods(self):
        own = {node.name for _, _, tree in files() for node in functions(tree)}
        for name, _, tree in files():
            for node in ast.walk(tree):
                if isinstance(node, ast.Call) and isinstance(node.func, ast.Attribute):
                    self.assertTrue(node.func.attr in own or node.func.attr in METHODS, (name, node.lineno))
                if isinstance(node, ast.ClassDef):
                    names = [each.name for each in node.body if isinstance(each, ast.FunctionDef)]
                    self.assertEqual([each for each in names if each in OF_BUILTINS], [], (name, node.name))
                    self.assertTrue("__iter__" in names or "__getitem__" not in names, (name, node.name))

    def test_generators_and_properties_have_names_of_their_own(self):
        trees = [tree for _, _, tree in files()]
        every = [node for tree in trees for node in functions(tree)]
        yielding = [node for node in every if any(isinstance(each, (ast.Yield, ast.YieldFrom)) for each in ast.walk(node))]
        for node in yielding:
            self.assertEqual(len([each for each in every if each.name == node.name]), 1, node.name)
        properties = {node.name for node in every if any(isinstance(each, ast.Name) and each.id == "property"
                                                         for each in node.decorator_list)}
        classes = [each for tree in trees for each in tree.body if isinstance(each, ast.ClassDef)]
        methods = {node.name for each in classes for node in each.body
                   if isinstance(node, ast.FunctionDef) and not node.decorator_list}
        self.assertEqual(sorted(properties & methods), [])
        stored = {node.attr for tree in trees for node in ast.walk(tree)
                  if isinstance(node, ast.Attribute) and isinstance(node.ctx, ast.Store)}
        decorated = {node.name for each in classes for node in each.body if isinstance(node, ast.FunctionDef)} - methods
        self.assertEqual(sorted(stored & (decorated | methods)), [name for name in ("own",) if name in stored])

    def test_strings(self):
        for name, text, tree in files():
            told = docstrings(tree)
            for node in ast.walk(tree):
                if isinstance(node, ast.Constant) and isinstance(node.value, str):
                    self.assertNotIn(chr(37), node.value, (name, node.lineno))
                    if id(node) not in told:
                        for word in re.findall(r"\w+", node.value):
                            self.assertNotIn(word, WORDS, (name, node.lineno))
            for word in ("dataclass", "overload", "contextmanager", "_wall", "_WallAttr", "(type)", "Meta", "metaclass="):
                self.assertNotIn(word, text, name)

    def test_sets_stand_only_where_they_may(self):
        for name, _, tree in files():
            above = {id(below): node for node in ast.walk(tree) for below in ast.iter_child_nodes(node)}
            for node in ast.walk(tree):
                made = isinstance(node, (ast.Set, ast.SetComp)) or (
                    isinstance(node, ast.Call) and isinstance(node.func, ast.Name) and node.func.id == "set")
                if made:
                    outer = above[id(node)]
                    while isinstance(outer, ast.BinOp):
                        outer = above[id(outer)]
                    placed = isinstance(outer, (ast.Compare, ast.Assign)) or (
                        isinstance(outer, ast.Call) and isinstance(outer.func, ast.Name)
                        and outer.func.id in ("sorted", "len"))
                    self.assertTrue(placed, (name, node.lineno))


if __name__ == "__main__":
    unittest.main()
