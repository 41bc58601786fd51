"""What operators, comparisons and properties run changes nothing that they did not create, and calls nothing that is passed.

The rules are looked at in the text alone: a method may be that of any class of the package that has one of its name.
"""

import ast
import pathlib
import unittest

FOLDER = pathlib.Path(__file__).resolve().parent.parent / "overfloors"
# What operators run is looked at; these may change things, or are run by no sign.
OTHERS = {"__init__", "__call__", "__iter__", "__enter__", "__exit__"}
CHANGING = {
    "append", "clear", "extend", "insert", "pop", "remove", "reverse", "setdefault", "update", "sort", "add", "discard",
}
CREATING = {"list", "dict", "set", "sorted"}


def trees(sources=None):
    """The trees of all files, or of some texts."""
    if sources is None:
        sources = [path.read_text() for path in sorted(FOLDER.glob("*.py"))]
    return [ast.parse(source) for source in sources]


class Package:
    """The functions and methods of some files, by their names."""

    def __init__(self, files):
        self.functions, self.methods, self.classes, self.attributes = {}, {}, {}, set()
        self.roots = []
        for tree in files:
            for node in tree.body:
                if isinstance(node, ast.FunctionDef):
                    self.functions[node.name] = node
                elif isinstance(node, ast.ClassDef):
                    self.add_class(node)
            for node in ast.walk(tree):
                if isinstance(node, ast.Attribute) and isinstance(node.ctx, ast.Store):
                    self.attributes.add(node.attr)

    def add_class(self, node):
        self.classes[node.name] = None
        for one in node.body:
            if not isinstance(one, ast.FunctionDef):
                continue
            self.methods.setdefault(one.name, []).append(one)
            if one.name == "__init__":
                self.classes[node.name] = one
            is_property = any(isinstance(name, ast.Name) and name.id == "property" for name in one.decorator_list)
            if is_property or (one.name.startswith("__") and one.name not in OTHERS):
                self.roots.append(one)

    def called(self, function):
        """The functions that a function may run by its calls, and the calls that are told by nothing."""
        found, unknown = [], []
        for node in ast.walk(function):
            if not isinstance(node, ast.Call):
                continue
            if isinstance(node.func, ast.Attribute):
                name = node.func.attr
                found.extend(self.methods.get(name, []))
                if name in self.attributes:
                    unknown.append(ast.unparse(node))
            elif isinstance(node.func, ast.Name) and node.func.id not in bound_in(function):
                name = node.func.id
                found.extend([self.functions[name]] if name in self.functions else [])
                found.extend([self.classes[name]] if self.classes.get(name) else [])
            elif not (isinstance(node.func, ast.Name) and node.func.id == "cls"):
                unknown.append(ast.unparse(node))
        return found, unknown

    def faults(self):
        """A list of texts: what breaks the rules in what the roots run."""
        waiting, seen, found = list(self.roots), set(), []
        while waiting:
            function = waiting.pop()
            if id(function) in seen:
                continue
            seen.add(id(function))
            more, unknown = self.called(function)
            waiting.extend(more)
            found.extend(f"{function.name}: {text}" for text in unknown + changes(function))
        return found


def bound_in(function):
    """The parameters and local variables of a function."""
    names = {node.id for node in ast.walk(function) if isinstance(node, ast.Name) and isinstance(node.ctx, ast.Store)}
    return names | {node.arg for node in ast.walk(function) if isinstance(node, ast.arg)}


def creates(node):
    """Whether an expression plainly creates a list, a dict or a set, also where classes have operators."""
    if isinstance(node, (ast.List, ast.Dict, ast.Set, ast.ListComp, ast.DictComp, ast.SetComp)):
        return True
    if isinstance(node, ast.BinOp) and isinstance(node.op, ast.Add):
        return creates(node.left) and creates(node.right)
    if isinstance(node, ast.Subscript) and isinstance(node.slice, ast.Slice):
        return True
    return isinstance(node, ast.Call) and isinstance(node.func, ast.Name) and node.func.id in CREATING


def created_in(function):
    """The local variables that are only ever assigned what is created there."""
    good, bad = set(), {node.arg for node in ast.walk(function) if isinstance(node, ast.arg)}
    for node in ast.walk(function):
        if isinstance(node, ast.Assign):
            for target in node.targets:
                for one in ast.walk(target):
                    if isinstance(one, ast.Name) and isinstance(one.ctx, ast.Store):
                        (good if one is target and creates(node.value) else bad).add(one.id)
        elif isinstance(node, (ast.For, ast.comprehension)):
            bad |= {one.id for one in ast.walk(node.target) if isinstance(one, ast.Name)}
    return good - bad


def objects_in(function):
    """The local variables that are assigned new objects of classes."""
    return {
        node.targets[0].id for node in ast.walk(function)
        if isinstance(node, ast.Assign) and isinstance(node.targets[0], ast.Name)
        and isinstance(node.value, ast.Call) and isinstance(node.value.func, ast.Name) and node.value.func.id[0].isupper()
    }


def is_kept_answer(function, target):
    """Whether a property keeps what it worked out, in the one form that is allowed."""
    first = [one for one in function.body if not (isinstance(one, ast.Expr) and isinstance(one.value, ast.Constant))][0]
    told = ast.unparse(target)
    return isinstance(first, ast.If) and ast.unparse(first.test) == f"{told} is None" and len(first.body) == 1


def changes(function):
    """What a function changes without having created it."""
    own, objects = created_in(function), objects_in(function)
    found = []
    for node in ast.walk(function):
        if isinstance(node, (ast.Subscript, ast.Attribute)) and isinstance(node.ctx, (ast.Store, ast.Del)):
            name = node.value.id if isinstance(node.value, ast.Name) else None
            if isinstance(node, ast.Attribute):
                fine = name in objects or (name == "self" and function.name == "__init__") or is_kept_answer(function, node)
            else:
                fine = name in own
            found.extend([] if fine else [ast.unparse(node)])
        elif isinstance(node, ast.AugAssign):
            counts = isinstance(node.value, ast.Constant) and isinstance(node.value.value, int)
            found.extend([] if counts and isinstance(node.target, ast.Name) else [ast.unparse(node)])
        elif isinstance(node, ast.Call) and isinstance(node.func, ast.Attribute) and node.func.attr in CHANGING:
            inner = node.func.value
            if isinstance(inner, ast.Call) and isinstance(inner.func, ast.Attribute) and inner.func.attr == "setdefault":
                inner = inner.func.value
            found.extend([] if isinstance(inner, ast.Name) and inner.id in own else [ast.unparse(node)])
    return found


class PureTest(unittest.TestCase):

    def test_package(self):
        self.assertEqual(Package(trees()).faults(), [])

    def test_roots_are_found(self):
        package = Package(trees())
        names = [node.name for node in package.roots]
        for name in ("__add__", "__eq__", "__lt__", "__contains__", "__bool__", "__str__", "__len__", "cell", "thickness"):
            self.assertIn(name, names)

    def check(self, told, *bodies):
        """Whether a comparison that runs each of some functions keeps the rules."""
        for body in bodies:
            source = "class A:\n    def __init__(self, n):\n        self.index = n\n    def __eq__(self, other):\n"
            source += f"        return run(self, other)\n\ndef run(one, other):\n    {body}\n"
            self.assertIs(Package(trees([source])).faults() == [], told, body)

    def test_faults_are_found(self):
        self.check(
            False, "one.n = 1", "other[0] = 1", "one.append(1)", "one.rows.pop()", "rows = [1] * 2\n    rows[0] = 1",
            "rows = [0] + [1] * 2\n    rows[0] = 1", "rows = one\n    rows.append(1)", "other(1)", "return one.index(1)",
            "rows = []\n    rows.index(1)", "n = 0\n    n += one", "rows = []\n    rows = one\n    rows[0] = 1",
            "for row in one:\n        row.append(1)", "rows = [one]\n    rows[0].append(1)", "del other[0]",
        )

    def test_what_may_stand(self):
        self.check(
            True, "rows = [0] + [1 for _ in other]\n    rows[0] = 1", "rows = []\n    rows.append(one)",
            "n = 0\n    n += 1\n    return n", "found = A(1)\n    found.index = 2\n    return found == one",
            "found = {}\n    found.setdefault(1, []).append(2)", "return sorted([1]) == list(other)",
            "rows = list(other)\n    rows[0], n = 1, 2",
        )


if __name__ == "__main__":
    unittest.main()
