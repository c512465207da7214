"""Those rules of the language subset that a look at the files can tell."""

import ast
import builtins
import pathlib
import unittest

PACKAGE = pathlib.Path(__file__).resolve().parent.parent / "movedrun"
FILES = sorted(path for path in PACKAGE.rglob("*") if path.is_file() and "__pycache__" not in path.parts)
LIBRARY = {
    "heapq": {"heappush", "heappop", "heapify", "heapreplace", "heappushpop"},
    "math": {"gcd", "lcm", "isqrt", "comb", "perm", "factorial"},
    "itertools": {
        "product", "combinations", "permutations", "chain", "accumulate", "pairwise", "islice", "zip_longest"
    },
    "collections": {"defaultdict"},
    "__future__": {"annotations"},
}
# L8, and what other rules let besides.
BUILTINS = set(
    "len range enumerate zip min max sum abs sorted reversed int str bool bytes list tuple dict set frozenset "
    "isinstance ord repr any all divmod pow getattr hasattr setattr iter next map super property staticmethod "
    "classmethod object float Exception ValueError TypeError KeyError IndexError LookupError ZeroDivisionError "
    "ArithmeticError OverflowError RuntimeError NotImplementedError AttributeError StopIteration NotImplemented".split()
)
BARRED = {"register", "mro", "elements", "open", "input", "law", "version_info", "with_traceback", "add_note"}
BARRED_NAMES = BARRED | set(
    "attrgetter breakpoint builtins compile copyright credits delattr dir eval exec exit gc globals help id importlib "
    "license locals methodcaller os quit sys type vars".split()
)
BARRED_STATEMENTS = (ast.Global, ast.AsyncFunctionDef, ast.AsyncFor, ast.AsyncWith, ast.Await)


def names_bound(tree):
    """All names that a file gives to something, but methods."""
    methods = {id(part) for each in ast.walk(tree) if isinstance(each, ast.ClassDef) for part in each.body}
    for node in ast.walk(tree):
        if isinstance(node, ast.Name) and isinstance(node.ctx, ast.Store):
            yield node.id
        elif isinstance(node, ast.arg):
            yield node.arg
        elif isinstance(node, (ast.FunctionDef, ast.ClassDef)) and id(node) not in methods:
            yield node.name
        elif isinstance(node, ast.ExceptHandler) and node.name:
            yield node.name


def methods_of(tree):
    """The names of the methods of each class of a file."""
    return {each: {part.name for part in each.body if isinstance(part, ast.FunctionDef)}
            for each in ast.walk(tree) if isinstance(each, ast.ClassDef)}


def handed_on(tree):
    """What is read of objects and not called there."""
    called = {id(node.func) for node in ast.walk(tree) if isinstance(node, ast.Call)}
    return [node for node in ast.walk(tree)
            if isinstance(node, ast.Attribute) and isinstance(node.ctx, ast.Load) and id(node) not in called]


class Language(unittest.TestCase):
    def each(self):
        return [(path, path.read_text(encoding="utf-8")) for path in FILES]

    def test_only_plain_files(self):
        self.assertLessEqual(len(FILES), 100)
        for path in FILES:
            self.assertRegex(str(path.relative_to(PACKAGE)), r"^[a-z0-9_/]+\.py$")
        for folder in {path.parent for path in FILES}:
            self.assertTrue((folder / "__init__.py").exists())

    def test_size_and_characters(self):
        for _, text in self.each():
            lines = text.split("\n")
            self.assertLessEqual(len(lines) - 1, 399)
            self.assertLessEqual(max(map(len, lines)), 120)
            self.assertTrue(all(sign == "\n" or " " <= sign <= "~" for sign in text))

    def test_functions(self):
        for _, text in self.each():
            for node in ast.walk(ast.parse(text)):
                if isinstance(node, ast.FunctionDef):
                    self.assertLessEqual(node.end_lineno - node.lineno + 1, 40, node.name)
                    self.assertEqual([part.id for part in node.decorator_list
                                      if part.id not in ("property", "staticmethod", "classmethod")], [])

    def test_imports(self):
        for path, text in self.each():
            for node in ast.walk(ast.parse(text)):
                self.assertNotIsInstance(node, ast.Import)
                if isinstance(node, ast.ImportFrom):
                    self.assertEqual(node.level, 0)
                    for alias in node.names:
                        self.assertIsNone(alias.asname)
                        self.imported(node.module, alias.name)

    def imported(self, module, name):
        if module in LIBRARY:
            self.assertIn(name, LIBRARY[module])
            return
        path = PACKAGE.parent.joinpath(*module.split(".")).with_suffix(".py")
        tree = ast.parse(path.read_text(encoding="utf-8"))
        own = [part.name for part in tree.body if isinstance(part, (ast.FunctionDef, ast.ClassDef))]
        own += [part.targets[0].id for part in tree.body if isinstance(part, ast.Assign)]
        self.assertIn(name, own)

    def test_module_level(self):
        for _, text in self.each():
            for node in ast.parse(text).body:
                plain = isinstance(node, (ast.ImportFrom, ast.FunctionDef, ast.ClassDef, ast.Assign))
                self.assertTrue(plain or isinstance(node, ast.Expr) and isinstance(node.value, ast.Constant))

    def test_names(self):
        own = set(dir(builtins))
        for _, text in self.each():
            tree = ast.parse(text)
            for name in names_bound(tree):
                self.assertRegex(name, r"^(_|_?[A-Za-z][A-Za-z0-9_]*|__init__)$")
                self.assertNotIn(name, own | BARRED_NAMES)
            for node in ast.walk(tree):
                if isinstance(node, ast.Attribute):
                    self.assertNotIn(node.attr, BARRED | {"format_map"})
                if isinstance(node, ast.Name) and node.id in own:
                    self.assertIn(node.id, BUILTINS)

    def test_statements_and_values(self):
        for _, text in self.each():
            for node in ast.walk(ast.parse(text)):
                self.assertNotIsInstance(node, BARRED_STATEMENTS)
                self.assertNotIsInstance(node, ast.Div)
                if isinstance(node, ast.Constant):
                    self.assertNotIsInstance(node.value, (float, complex))
                    if isinstance(node.value, str):
                        self.assertNotIn(chr(37), node.value)
                if isinstance(node, ast.Compare) and isinstance(node.ops[0], (ast.Is, ast.IsNot)):
                    self.assertIsInstance(node.comparators[0], ast.Constant)

    def test_methods_are_called_where_they_stand(self):
        trees = {path: ast.parse(text) for path, text in self.each()}
        methods = {name for tree in trees.values() for names in methods_of(tree).values() for name in names}
        stored = {node.attr for tree in trees.values() for node in ast.walk(tree)
                  if isinstance(node, ast.Attribute) and isinstance(node.ctx, ast.Store)}
        for path, tree in trees.items():
            for node in handed_on(tree):
                self.assertFalse(node.attr in methods - stored, (path.name, node.lineno, node.attr))
            # What is an attribute elsewhere may be a method of the class itself.
            for each, names in methods_of(tree).items():
                for node in handed_on(each):
                    own = isinstance(node.value, ast.Name) and node.value.id == "self" and node.attr in names
                    self.assertFalse(own, (path.name, node.lineno, node.attr))

    def test_no_file_imports_from_one_that_imports_it(self):
        needs = {}
        for path in FILES:
            tree = ast.parse(path.read_text(encoding="utf-8"))
            needs["movedrun." + path.stem] = {
                node.module for node in ast.walk(tree) if isinstance(node, ast.ImportFrom)} - set(LIBRARY)
        while needs:
            free = [name for name, others in needs.items() if not others & set(needs)]
            self.assertTrue(free, needs)
            for name in free:
                del needs[name]


if __name__ == "__main__":
    unittest.main()
