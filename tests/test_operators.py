"""L5 and L28 over the whole package: names of static and class methods, and that what operators, properties, `__eq__`,
`__len__` and the like run changes nothing, and calls nothing that it is handed or that objects hold, whatever they
call. (Calls are followed by name, so more is looked at than is ever run.)"""

import ast
import unittest

from test_language import OF_BUILTINS, files, functions, parameters

CHANGING = """append clear extend insert pop remove reverse setdefault update add discard sort heappush heappop heapify heapreplace
    heappushpop""".split()
FREE = ("__init__", "__enter__", "__exit__", "__call__", "__iter__", "__setitem__")
MAKERS = ("list", "dict", "sorted")


def decorators(node):
    return [each.attr if isinstance(each, ast.Attribute) else each.id for each in node.decorator_list]


def package():
    """(classes, functions at module level) of the package, each a list of nodes."""
    bodies = [node for _, _, tree in files() for node in tree.body]
    return ([node for node in bodies if isinstance(node, ast.ClassDef)], [node for node in bodies if isinstance(node, ast.FunctionDef)])


def methods(classes):
    return [node for each in classes for node in each.body if isinstance(node, ast.FunctionDef)]


def stored_names():
    """The names under which the package stores attributes, on whatever object."""
    return {node.attr for _, _, tree in files() for node in ast.walk(tree)
            if isinstance(node, ast.Attribute) and isinstance(node.ctx, ast.Store)}


def class_values(classes):
    return {target.id for each in classes for node in each.body if isinstance(node, ast.Assign)
            for target in node.targets}


def held_names(classes):
    """The names of all that an object may hold: what is stored, class values, and what properties give."""
    properties = {node.name for node in methods(classes) if "property" in decorators(node)}
    return stored_names() | class_values(classes) | properties


def local_names(node):
    """The names of what a function is passed or assigns, or a function in it."""
    inner = [each for each in ast.walk(node) if isinstance(each, (ast.FunctionDef, ast.Lambda))]
    stored = [each.id for each in ast.walk(node) if isinstance(each, ast.Name) and isinstance(each.ctx, ast.Store)]
    return stored + [name for each in inner for name in parameters(each)]


def is_root(node):
    operator = node.name.startswith("__") and node.name not in FREE
    return operator or "property" in decorators(node)


def called(node, classes, plain):
    """The functions, methods and constructors that a function may call."""
    found = []
    for call in [each for each in ast.walk(node) if isinstance(each, ast.Call)]:
        if isinstance(call.func, ast.Name):
            found += [each for each in plain if each.name == call.func.id]
            for made in [each for each in classes if each.name == call.func.id]:
                found += [each for each in methods([made]) if each.name == "__init__"]
            if call.func.id == "cls":
                found += [each for each in methods(classes) if each.name == "__init__"]
        elif isinstance(call.func, ast.Attribute):
            found += [each for each in methods(classes) if each.name == call.func.attr]
    return found


def reached(roots, classes, plain):
    found, ahead = [], list(roots)
    while ahead:
        node = ahead.pop()
        if node not in found:
            found.append(node)
            ahead += called(node, classes, plain)
    return found


def is_own_list(node, name):
    """Whether each assignment to a local name makes a new list or dict, and none is a dict comprehension or a `|`."""
    worths = [each.value for each in ast.walk(node) if isinstance(each, ast.Assign)
              and any(isinstance(target, ast.Name) and target.id == name for target in each.targets)]
    return len(worths) > 0 and all(isinstance(worth, (ast.List, ast.Dict, ast.ListComp)) or (
        isinstance(worth, ast.Call) and isinstance(worth.func, ast.Name) and worth.func.id in MAKERS) for worth in worths)


def is_free(node, target):
    """Whether a function that operators run may assign or modify this."""
    if isinstance(target, ast.Attribute):
        return node.name == "__init__" and isinstance(target.value, ast.Name) and target.value.id == "self"
    if isinstance(target, ast.Subscript):
        return isinstance(target.value, ast.Name) and is_own_list(node, target.value.id)
    if isinstance(target, (ast.Tuple, ast.List)):
        return all(is_free(node, each) for each in target.elts)
    return isinstance(target, (ast.Name, ast.Starred))


def faults(node, own, held=()):
    """What in a function breaks the rule, as a list of (line, what), if these are the names of the package's methods
    and those of all that its objects hold."""
    found = []
    for each in ast.walk(node):
        targets = each.targets if isinstance(each, (ast.Assign, ast.Delete)) else [each.target] if isinstance(each, ast.For) else []
        found += [(each.lineno, "assigned") for target in targets if not is_free(node, target)]
        if isinstance(each, ast.AugAssign):
            plain = isinstance(each.target, ast.Name) and isinstance(each.value, ast.Constant)
            found += [] if plain else [(each.lineno, "added")]
        if isinstance(each, ast.Call):
            found += [(each.lineno, what) for what in [call_fault(node, each.func, own, held)] if what]
        if isinstance(each, (ast.Yield, ast.YieldFrom)):
            found.append((each.lineno, "yielded"))
    return found


def call_fault(node, func, own, held):
    if isinstance(func, ast.Name):
        return "called" if func.id in held or func.id in local_names(node) and func.id != "cls" else None
    if not isinstance(func, ast.Attribute) or func.attr in held:
        return "called"
    if func.attr in CHANGING:
        new = isinstance(func.value, ast.Name) and is_own_list(node, func.value.id)
        return None if new and func.attr != "sort" else "modified"
    return None if func.attr in own or func.attr in OF_BUILTINS else "called"


def all_faults(classes, plain, held):
    """What breaks the rule in all that operators and the like run, as a list of (function, line, what)."""
    own = {node.name for node in methods(classes)}
    roots = [node for node in methods(classes) if is_root(node)]
    return [(node.name, *fault) for node in reached(roots, classes, plain) for fault in faults(node, own, held)]


class OperatorsTest(unittest.TestCase):

    def test_they_change_nothing_through_what_they_call_neither(self):
        classes, plain = package()
        roots = {node.name for node in methods(classes) if is_root(node)}
        self.assertTrue({"__or__", "__contains__", "__eq__", "__len__", "moments", "ticking"} <= roots)
        self.assertEqual(all_faults(classes, plain, held_names(classes)), [])

    def test_what_objects_hold(self):
        held = held_names(package()[0])
        self.assertTrue({"index", "count", "value", "logic", "_line", "MOST", "moments"} <= held)
        self.assertEqual(sorted(held & {"do", "keeps", "append", "join", "__init__"}), [])

    def test_calls_of_what_objects_hold_are_found_through_what_is_called(self):
        classes, plain = package()
        first = ast.parse("def keeps(order, pair):\n    return order[0].index(pair[0]) < 1").body
        others = [node for node in plain if node.name != "keeps"]
        self.assertEqual(all_faults(classes, others + first, held_names(classes)), [("keeps", 2, "called")])
        self.assertEqual(all_faults(classes, others + first, []), [])

    def test_calls_of_what_objects_hold(self):
        for text in ("xs.index(1)", "self.rows[0].index(1)", "'ab'.index('b')", "self.index(1)", "index(1)",
                     "self.told.index(xs)", "rows = []\n    rows.index(1)", "rows = [each.index(1) for each in xs]",
                     "return xs[0].index(1) < 1"):
            node = ast.parse(f"def told(self, xs, ys):\n    {text}").body[0]
            self.assertEqual([what for _, what in faults(node, ["told"], ["index"])], ["called"], text)
        for text in ("self.told(xs)", "told(xs)", "n = xs.index", "xs.count(1)",
                     "rows = []\n    rows.append(ys.index)"):
            node = ast.parse(f"def told(self, xs, ys):\n    {text}").body[0]
            self.assertEqual(faults(node, ["told"], ["index"]), [], text)
        # A name of a method, or one that changes lists, is no way around it.
        for text in ("self.told(xs)", "rows = []\n    rows.append(1)"):
            node = ast.parse(f"def made(self, xs):\n    {text}").body[0]
            self.assertEqual([what for _, what in faults(node, ["told"], ["told", "append"])], ["called"], text)

    def test_what_the_check_finds(self):
        for text in ("rows = {n: 1 for n in xs}\n    rows[0] = 1", "rows = xs | ys\n    rows.append(1)", "xs.append(1)", "xs[0] = 1",
                     "self.rows = 1", "self.bits['a'] = 0", "rows = sorted(xs)\n    rows.sort()", "xs(1)", "self.work(1)", "del xs[0]",
                     "rows = []\n    rows += xs", "seen = set()\n    seen.add(1)", "yield 1", "for self.n in xs:\n        pass",
                     "work = self.work\n    work(1)", "for work in xs:\n        work(1)",
                     "sorted(xs, key=lambda n: n())", "self.work()(1)"):
            node = ast.parse(f"def told(self, xs, ys):\n    {text}").body[0]
            self.assertNotEqual(faults(node, ["told"]), [], text)
        for text in ("rows = []\n    rows.append(1)", "rows = list(xs)\n    rows[0] = 1", "rows = {**xs, 'a': 1}\n    rows['b'] = 1", "n = 0\n    n += 1",
                     "self.told(xs)", "rows = [n for n in xs]\n    rows.extend(ys)", "a, (b, *c) = xs"):
            node = ast.parse(f"def told(self, xs, ys):\n    {text}").body[0]
            self.assertEqual(faults(node, ["told"]), [], text)

    def test_only_new_objects_are_given_attributes(self):
        node = ast.parse("def __init__(self, other):\n    self.a = 1\n    other.a = 1\n    self.a.b = 1").body[0]
        self.assertEqual([line for line, _ in faults(node, [])], [3, 4])


class NamesTest(unittest.TestCase):

    def test_static_and_class_methods_have_names_of_their_own(self):
        classes, _ = package()
        every = methods(classes)
        special = {node.name for node in every if "classmethod" in decorators(node) or "staticmethod" in decorators(node)}
        others = {node.name for node in every if not {"classmethod", "staticmethod"} & set(decorators(node))}
        self.assertTrue({"of", "read", "every", "widest"} <= special)
        self.assertEqual(sorted(special & (others | stored_names() | class_values(classes) | OF_BUILTINS)), [])

    def test_class_values_have_names_of_their_own(self):
        classes, _ = package()
        values = class_values(classes)
        others = {node.name for node in methods(classes)} | {each.name for each in classes} | OF_BUILTINS | stored_names()
        self.assertEqual(sorted(values & others), [])
        for _, _, tree in files():
            for node in functions(tree):
                for default in [*node.args.defaults, *[each for each in node.args.kw_defaults if each is not None]]:
                    self.assertEqual([each.id for each in ast.walk(default) if isinstance(each, ast.Name) and each.id in values], [])


if __name__ == "__main__":
    unittest.main()
