"""The package keeps to its small part of Python: the rules that a short look can check."""

import ast
import builtins
import pathlib
import unittest
import warnings

import gridmetric

FOLDER = pathlib.Path(gridmetric.__file__).parent

BUILTINS = set(
    "len range enumerate zip min max sum abs sorted reversed int str bool list tuple dict set "
    "isinstance ord repr any all divmod iter next map print Exception ValueError TypeError "
    "KeyError IndexError LookupError ZeroDivisionError RuntimeError NotImplemented".split()
)
LIBRARY = {
    "math": {"gcd", "lcm", "isqrt", "comb", "perm", "factorial"},
    "heapq": {"heappush", "heappop", "heapify", "heapreplace", "heappushpop"},
}
BUILTIN_METHODS = set(
    "append clear copy count endswith extend find get index insert isalnum isalpha isdigit "
    "islower isspace isupper items join keys ljust lower lstrip partition pop remove replace "
    "reverse rfind rjust rpartition rsplit rstrip setdefault split splitlines startswith strip "
    "update upper values zfill bit_length add discard isascii removeprefix removesuffix".split()
)
DUNDERS = set(
    "__init__ __eq__ __repr__ __str__ __len__ __iter__ __add__ __sub__ __mul__ __neg__ "
    "__contains__".split()
)
CHANGING_METHODS = set(
    "append clear extend insert pop remove reverse setdefault update add discard".split()
)
MODULE_LEVEL = (ast.ImportFrom, ast.FunctionDef, ast.ClassDef, ast.Assign, ast.Expr)
NOT_USED = (
    ast.Div, ast.AsyncFunctionDef, ast.Await, ast.Global, ast.Import, ast.MatMult,
)


def files():
    return sorted(FOLDER.glob("*.py"))


def trees():
    return [(path, ast.parse(path.read_text(encoding="utf-8"))) for path in files()]


def functions(tree):
    return [node for node in ast.walk(tree) if isinstance(node, ast.FunctionDef)]


def defined(tree):
    return {node.name for node in tree.body if isinstance(node, (ast.FunctionDef, ast.ClassDef))}


def imports(tree):
    return [node for node in tree.body if isinstance(node, ast.ImportFrom)]


def walked_names(node):
    """The names that a loop or comprehension goes over, also within calls such as enumerate."""
    if isinstance(node, ast.Name):
        return {node.id}
    if isinstance(node, ast.Attribute):
        return walked_names(node.value)
    if isinstance(node, ast.IfExp):
        return walked_names(node.body) | walked_names(node.orelse)
    if isinstance(node, ast.BoolOp):
        return set().union(*[walked_names(part) for part in node.values])
    if isinstance(node, ast.Call):
        parts = list(node.args)
        if isinstance(node.func, ast.Attribute):
            parts.append(node.func.value)
        elif getattr(node.func, "id", None) in ("list", "tuple", "sorted", "range", "len"):
            return set()
        return set().union(*[walked_names(part) for part in parts])
    return set()


def changed_names(node):
    """The names of what the rows of a node change: by a method, an item or `+=`."""
    found = set()
    for part in ast.walk(node):
        if isinstance(part, ast.Call) and isinstance(part.func, ast.Attribute):
            if part.func.attr in CHANGING_METHODS:
                found |= walked_names(part.func.value)
        if isinstance(part, ast.Subscript) and not isinstance(part.ctx, ast.Load):
            found |= walked_names(part.value)
        if isinstance(part, ast.AugAssign):
            found |= walked_names(part.target)
    return found


def same_things(function):
    """A dict from each name to all names that are assigned from it, or it from them."""
    pairs = []
    for node in ast.walk(function):
        if isinstance(node, ast.Assign):
            for target in node.targets:
                if isinstance(target, ast.Name):
                    value = node.value
                    if not isinstance(value, ast.Call):
                        pairs += [(target.id, name) for name in walked_names(value)]
    names = {name for pair in pairs for name in pair}
    found = {name: {name} for name in names}
    for _ in names:
        for one, two in pairs:
            found[one] |= found[two]
            found[two] |= found[one]
    return found


class LanguageTest(unittest.TestCase):
    def test_the_folder_has_nothing_but_files_of_the_program(self):
        for path in FOLDER.iterdir():
            if path.name != "__pycache__":
                self.assertRegex(path.name, r"\A[a-z_0-9]+\.py\Z")

    def test_characters_and_sizes(self):
        for path in files():
            text = path.read_text(encoding="utf-8")
            self.assertTrue(all(sign == "\n" or " " <= sign <= "~" for sign in text), path)
            lines = text.split("\n")
            self.assertLessEqual(len(lines), 400, path)
            self.assertLessEqual(max(len(line) for line in lines), 120, path)

    def test_functions_are_short_and_without_decorators(self):
        for path, tree in trees():
            for node in functions(tree):
                self.assertLessEqual(node.end_lineno - node.lineno + 1, 40, (path, node.name))
                self.assertEqual(node.decorator_list, [], (path, node.name))
                if node.name.startswith("__"):
                    self.assertIn(node.name, DUNDERS, path)

    def test_statements(self):
        for path, tree in trees():
            for node in tree.body:
                self.assertIsInstance(node, MODULE_LEVEL, path)
            for node in ast.walk(tree):
                self.assertNotIsInstance(node, NOT_USED, path)
                if isinstance(node, ast.Constant):
                    self.assertNotIsInstance(node.value, (float, complex), path)
                    self.assertFalse(isinstance(node.value, str) and "\r" in node.value, path)

    def test_imports_name_the_file_that_defines_the_name(self):
        found = {f"gridmetric.{path.stem}": tree for path, tree in trees()}
        for path, tree in trees():
            for node in imports(tree):
                names = LIBRARY.get(node.module) or defined(found[node.module])
                self.assertEqual(node.level, 0, path)
                self.assertTrue({alias.name for alias in node.names} <= names, (path, node.module))

    def test_no_two_files_import_from_each_other(self):
        left = {}
        for path, tree in trees():
            left[f"gridmetric.{path.stem}"] = {node.module for node in imports(tree)}
        while left:
            free = [name for name, used in left.items() if not used & set(left)]
            self.assertTrue(free, left)
            for name in free:
                del left[name]

    def test_builtins_are_the_allowed_ones_and_keep_their_names(self):
        barred = set(dir(builtins)) - {"_"}
        for path, tree in trees():
            for node in ast.walk(tree):
                if isinstance(node, ast.Name) and node.id in barred:
                    self.assertIn(node.id, BUILTINS, path)
                    self.assertIsInstance(node.ctx, ast.Load, (path, node.id))
                if isinstance(node, (ast.FunctionDef, ast.ClassDef)):
                    self.assertNotIn(node.name, barred, path)
                if isinstance(node, ast.arg):
                    self.assertNotIn(node.arg, barred, path)

    def test_methods_are_own_ones_or_the_allowed_ones(self):
        own = {node.name for _, tree in trees() for node in functions(tree)}
        for path, tree in trees():
            for node in ast.walk(tree):
                if isinstance(node, ast.Call) and isinstance(node.func, ast.Attribute):
                    self.assertIn(node.func.attr, own | BUILTIN_METHODS, path)

    def test_sums_and_the_like_take_lists(self):
        takers = {"any", "all", "min", "max", "sum", "sorted"}
        for path, tree in trees():
            for node in ast.walk(tree):
                if isinstance(node, ast.Call) and getattr(node.func, "id", None) in takers:
                    kinds = {part.__class__ for part in node.args}
                    self.assertNotIn(ast.GeneratorExp, kinds, (path, node.lineno))

    def test_what_a_loop_walks_is_not_changed_in_it(self):
        for path, tree in trees():
            for function in functions(tree):
                same = same_things(function)
                for node in ast.walk(function):
                    if isinstance(node, ast.For):
                        walked = walked_names(node.iter)
                        walked |= {two for one in walked for two in same.get(one, ())}
                        changed = set().union(*[changed_names(part) for part in node.body])
                        self.assertFalse(walked & changed, (path, function.name, node.lineno))

    def test_python_gives_no_warning(self):
        with warnings.catch_warnings():
            warnings.simplefilter("error")
            for path in files():
                compile(path.read_text(encoding="utf-8"), str(path), "exec")

    def test_names_are_bound_once_in_a_file(self):
        for path, tree in trees():
            names = [alias.name for node in imports(tree) for alias in node.names]
            names += [node.name for node in tree.body if hasattr(node, "name")]
            self.assertEqual(len(names), len(set(names)), path)

    def test_what_is_imported_is_used(self):
        for path, tree in trees():
            read = {node.id for node in ast.walk(tree) if isinstance(node, ast.Name)}
            for node in imports(tree):
                for alias in node.names:
                    self.assertIn(alias.name, read, path)

    def test_no_local_name_is_that_of_a_class_or_an_import(self):
        for path, tree in trees():
            taken = {alias.name for node in imports(tree) for alias in node.names}
            taken |= {node.name for node in tree.body if isinstance(node, ast.ClassDef)}
            for node in ast.walk(tree):
                if isinstance(node, ast.Name) and isinstance(node.ctx, ast.Store):
                    self.assertNotIn(node.id, taken, path)
                if isinstance(node, ast.arg):
                    self.assertNotIn(node.arg, taken, path)


if __name__ == "__main__":
    unittest.main()
