"""The plain rules that the files of the package keep to, so far as a look at the text shows them."""

import ast
import builtins
import pathlib
import re
import unittest

FOLDER = pathlib.Path(__file__).resolve().parent.parent / "overfloors"
LIBRARY = {
    "math": {"gcd", "lcm", "isqrt", "comb", "perm", "factorial"},
    "itertools": {"product", "combinations", "permutations", "chain", "accumulate", "pairwise", "islice", "zip_longest"},
    "heapq": {"heappush", "heappop", "heapify", "heapreplace", "heappushpop"},
    "collections": {"defaultdict", "deque"},
    "__future__": {"annotations"},
}
BARRED_NODES = (
    ast.AsyncFunctionDef, ast.AsyncFor, ast.AsyncWith, ast.Await, ast.Div, ast.MatMult, ast.Starred, ast.Set, ast.SetComp,
    ast.Global, ast.Import,
)
BARRED_WORDS = {
    "typing", "enum", "Enum", "Generic", "Protocol", "ABC", "namedtuple", "NamedTuple", "TypedDict", "abstractmethod",
    "register", "mro", "elements", "open", "input", "law", "eval", "exec", "compile", "globals", "locals", "vars", "hash",
    "id", "next", "iter", "round", "super", "pow", "chr", "float", "object", "print", "divmod", "filter", "sys", "os",
}


def files():
    return sorted(FOLDER.glob("*.py"))


def is_plain(node):
    """Whether an argument is plainly numbers or texts, or a list or set of such."""
    if isinstance(node, ast.ListComp):
        return is_plain(node.elt)
    if isinstance(node, ast.Call) and isinstance(node.func, ast.Name) and node.func.id == "set":
        return is_plain(node.args[0])
    is_call = isinstance(node, ast.Call) and isinstance(node.func, ast.Name) and node.func.id in ("int", "str", "len")
    return is_call or isinstance(node, (ast.Constant, ast.JoinedStr))


class LanguageTest(unittest.TestCase):

    def test_folder_holds_nothing_else(self):
        for path in FOLDER.iterdir():
            if path.name != "__pycache__":
                self.assertRegex(path.name, r"^[a-z_][a-z0-9_]*\.py$")

    def test_signs_and_lengths(self):
        for path in files():
            text = path.read_bytes()
            self.assertTrue(all(sign == 10 or 32 <= sign <= 126 for sign in text), path)
            lines = text.decode("ascii").splitlines()
            self.assertLessEqual(len(lines), 399, path)
            self.assertLessEqual(max(len(line) for line in lines), 120, path)

    def test_functions_are_small(self):
        for path in files():
            for node in ast.walk(ast.parse(path.read_text())):
                if isinstance(node, ast.FunctionDef):
                    self.assertLessEqual(node.end_lineno - node.lineno + 1, 40, node.name)

    def test_module_level(self):
        for path in files():
            tree = ast.parse(path.read_text())
            self.assertIsNotNone(ast.get_docstring(tree), path)
            for node in tree.body[1:]:
                self.assertIsInstance(node, (ast.ImportFrom, ast.FunctionDef, ast.ClassDef, ast.Assign), path)

    def test_imports(self):
        for path in files():
            for node in ast.walk(ast.parse(path.read_text())):
                if isinstance(node, ast.ImportFrom):
                    self.assertEqual(node.level, 0)
                    names = {alias.name for alias in node.names}
                    self.assertTrue(all(alias.asname is None for alias in node.names))
                    if node.module in LIBRARY:
                        self.assertLessEqual(names, LIBRARY[node.module])
                        continue
                    self.assertTrue(node.module.startswith("overfloors."), node.module)
                    source = (FOLDER / (node.module.split(".")[1] + ".py")).read_text()
                    body = ast.parse(source).body
                    own = {one.name for one in body if isinstance(one, (ast.FunctionDef, ast.ClassDef))}
                    own |= {target.id for one in body if isinstance(one, ast.Assign) for target in one.targets}
                    self.assertLessEqual(names, own, path)

    def test_no_ring_of_imports(self):
        needs = {}
        for path in files():
            tree = ast.parse(path.read_text())
            modules = [node.module for node in tree.body if isinstance(node, ast.ImportFrom)]
            needs[path.stem] = {module.split(".")[1] for module in modules if module.startswith("overfloors.")}
        while needs:
            free = [name for name, others in needs.items() if not others & set(needs)]
            self.assertTrue(free, needs)
            for name in free:
                del needs[name]

    def test_words_and_statements(self):
        for path in files():
            for node in ast.walk(ast.parse(path.read_text())):
                if not (isinstance(node, ast.Starred) and isinstance(node.ctx, ast.Load)):
                    self.assertNotIsInstance(node, BARRED_NODES, path)
                if isinstance(node, ast.Constant):
                    self.assertNotIsInstance(node.value, (float, complex), path)
                if isinstance(node, ast.Name):
                    self.assertNotIn(node.id, BARRED_WORDS, path)
                if isinstance(node, (ast.FunctionDef, ast.ClassDef, ast.arg)):
                    name = node.arg if isinstance(node, ast.arg) else node.name
                    self.assertTrue(re.fullmatch(r"_?[A-Za-z][A-Za-z0-9_]*|_|__[a-z]+__", name), name)

    def test_names(self):
        """Imports are used, and no other name is that of an import, a class of the file or a builtin."""
        for path in files():
            tree = ast.parse(path.read_text())
            imports = {alias.name for node in tree.body if isinstance(node, ast.ImportFrom) for alias in node.names}
            classes = {node.name for node in tree.body if isinstance(node, ast.ClassDef)}
            names = [node for node in ast.walk(tree) if isinstance(node, ast.Name)]
            self.assertLessEqual(imports, {node.id for node in names}, path)
            bound = {node.id for node in names if isinstance(node.ctx, ast.Store)}
            bound |= {node.arg for node in ast.walk(tree) if isinstance(node, ast.arg)}
            self.assertFalse(bound & (imports | classes | set(dir(builtins))), path)

    def test_attributes_and_properties(self):
        """No attribute has the name of a property or a method."""
        stored, defined = set(), set()
        for path in files():
            for node in ast.walk(ast.parse(path.read_text())):
                if isinstance(node, ast.Attribute) and isinstance(node.ctx, ast.Store):
                    stored.add(node.attr)
                elif isinstance(node, ast.ClassDef):
                    defined.update(one.name for one in node.body if isinstance(one, ast.FunctionDef))
        self.assertFalse(stored & defined)

    def test_calls(self):
        """What is ordered is plainly numbers or texts; no stars and no generator expressions in calls."""
        for path in files():
            for node in ast.walk(ast.parse(path.read_text())):
                self.assertNotIsInstance(node, ast.GeneratorExp, path)
                if isinstance(node, ast.Call) and isinstance(node.func, ast.Name):
                    self.assertFalse([one for one in node.args if isinstance(one, ast.Starred)], path)
                    if node.func.id in ("sorted", "min", "max"):
                        self.assertTrue(any(is_plain(one) for one in node.args), ast.unparse(node))

    def test_attributes_that_are_read_are_assigned(self):
        stored, read = set(), {}
        for path in files():
            for node in ast.walk(ast.parse(path.read_text())):
                if isinstance(node, ast.Attribute) and isinstance(node.ctx, ast.Store):
                    stored.add(node.attr)
                elif isinstance(node, ast.Attribute):
                    read[node.attr] = path
                elif isinstance(node, ast.ClassDef):
                    stored.update(one.name for one in node.body if isinstance(one, ast.FunctionDef))
        builtin = set(dir(str)) | set(dir(list)) | set(dir(dict)) | set(dir(int)) | set(dir(set))
        self.assertLessEqual(set(read), stored | builtin)


if __name__ == "__main__":
    unittest.main()
