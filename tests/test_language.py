"""The rules for the code of the package that can be read off its files: some of ../shared/LANGUAGE.md, not all."""

import ast
import builtins
import pathlib
import unittest

import gridlanes

FOLDER = pathlib.Path(gridlanes.__file__).parent
BUILTINS = set(
    "len range enumerate zip min max sum abs sorted reversed int str bool bytes list tuple dict set frozenset map "
    "isinstance ord repr any all divmod iter next type super property staticmethod classmethod "
    "Exception ValueError TypeError KeyError IndexError LookupError ZeroDivisionError ArithmeticError OverflowError "
    "RuntimeError NotImplementedError AttributeError StopIteration NotImplemented".split())
METHODS = set(
    "append clear copy count endswith extend find get index insert isalnum isalpha isdigit islower isspace isupper "
    "items join keys ljust lower lstrip partition pop remove replace reverse rfind rjust rpartition rsplit rstrip "
    "setdefault split splitlines startswith strip update upper values zfill bit_length add discard appendleft popleft "
    "title capitalize swapcase casefold center expandtabs removeprefix removesuffix rindex isascii isdecimal "
    "isnumeric istitle isidentifier isprintable".split())
LIBRARY = {
    "math": set("gcd lcm isqrt comb perm factorial".split()),
    "heapq": set("heappush heappop heapify heapreplace heappushpop".split()),
    "itertools": set("product combinations permutations chain accumulate pairwise islice zip_longest".split()),
    "collections": set("defaultdict deque".split()),
}
BARRED_NODES = (ast.AsyncFunctionDef, ast.Await, ast.Import, ast.TryStar, ast.Div)
BARRED_NAMES = set(
    "register mro elements open input law version_info with_traceback add_note attrgetter breakpoint builtins compile "
    "copyright credits delattr dir eval exec exit gc getattr globals hasattr help id importlib license locals "
    "methodcaller os quit setattr super sys type vars".split())
BARRED_ATTRIBUTES = set(
    "items keys values pop update append clear extend insert remove reverse setdefault sort args encode decode hex "
    "fromhex format format_map mro".split())
# These take lists, not generators, in a package with an own __eq__.
TAKE_LISTS = ("any", "all", "min", "max", "sum", "sorted")


def sources():
    """Pairs of a file's path and its text."""
    return [(path, path.read_text(encoding="utf-8")) for path in sorted(FOLDER.glob("*.py"))]


def trees():
    """Pairs of a file's name and its tree."""
    return [(path.stem, ast.parse(text)) for path, text in sources()]


def nodes(*kinds):
    """Pairs of a place and a node, for all nodes of these kinds."""
    return [(f"{name}.py:{getattr(node, 'lineno', 0)}", node)
            for name, tree in trees() for node in ast.walk(tree) if isinstance(node, kinds)]


def imports_of(tree):
    return [node for node in ast.walk(tree) if isinstance(node, ast.ImportFrom)]


def top_names(tree):
    """The names that a file defines at module level."""
    names = [node.name for node in tree.body if isinstance(node, (ast.FunctionDef, ast.ClassDef))]
    return names + [node.targets[0].id for node in tree.body if isinstance(node, ast.Assign)]


def bound_names(tree):
    """The names of all parameters and variables in a tree."""
    names = [node.arg for node in ast.walk(tree) if isinstance(node, ast.arg)]
    return names + [node.id for node in ast.walk(tree)
                    if isinstance(node, ast.Name) and isinstance(node.ctx, ast.Store)]


class FilesTest(unittest.TestCase):

    def test_the_folder_holds_python_files_alone(self):
        names = [path.name for path in FOLDER.iterdir() if path.name != "__pycache__"]
        self.assertEqual([name for name in names if not name.endswith(".py")], [])
        self.assertIn("__init__.py", names)

    def test_signs_and_lines(self):
        for path, text in sources():
            lines = text.split("\n")
            self.assertTrue(all(" " <= sign <= "~" or sign == "\n" for sign in text), path.name)
            self.assertLessEqual(max(len(line) for line in lines), 120, path.name)
            self.assertLessEqual(len(lines), 400, path.name)

    def test_functions_have_forty_lines_at_most(self):
        for place, node in nodes(ast.FunctionDef):
            self.assertLessEqual(node.end_lineno - node.lineno + 1, 40, place)

    def test_module_level(self):
        allowed = (ast.ImportFrom, ast.FunctionDef, ast.ClassDef, ast.Assign)
        for name, tree in trees():
            self.assertIsNotNone(ast.get_docstring(tree), name)
            for node in tree.body[1:]:
                self.assertIsInstance(node, allowed, f"{name}.py:{node.lineno}")
                if isinstance(node, (ast.FunctionDef, ast.ClassDef)):
                    self.assertIsNotNone(ast.get_docstring(node), f"{name}.py:{node.lineno}")
            names = [alias.name for node in imports_of(tree) for alias in node.names] + top_names(tree)
            self.assertEqual(len(names), len(set(names)), name)


class ImportsTest(unittest.TestCase):

    def test_where_they_come_from(self):
        defined = {f"gridlanes.{name}": top_names(tree) for name, tree in trees()}
        for name, tree in trees():
            loaded = {node.id for node in ast.walk(tree) if isinstance(node, ast.Name)}
            for node in imports_of(tree):
                for alias in node.names:
                    self.assertEqual((node.level, alias.asname), (0, None), name)
                    self.assertIn(alias.name, {**LIBRARY, **defined}[node.module], name)
                    self.assertIn(alias.name, loaded, name)

    def test_no_circles(self):
        needs = {f"gridlanes.{name}": {node.module for node in imports_of(tree)} for name, tree in trees()}
        while needs:
            free = [name for name in needs if not needs[name] & set(needs)]
            self.assertNotEqual(free, [], sorted(needs))
            for name in free:
                del needs[name]


class CodeTest(unittest.TestCase):

    def test_barred_parts(self):
        self.assertEqual([place for place, _ in nodes(*BARRED_NODES)], [])
        for place, node in nodes(ast.Constant):
            self.assertNotIsInstance(node.value, (float, complex), place)

    def test_is_stands_beside_constants(self):
        for place, node in nodes(ast.Compare):
            for sign, right in zip(node.ops, node.comparators):
                if isinstance(sign, (ast.Is, ast.IsNot)):
                    self.assertTrue(isinstance(right, ast.Constant) and right.value in (None, True, False), place)

    def test_names(self):
        for name, tree in trees():
            for bound in bound_names(tree) + top_names(tree):
                self.assertFalse(bound.startswith("__"), f"{name}: {bound}")
                self.assertNotIn(bound, BARRED_NAMES, name)
                self.assertFalse(hasattr(builtins, bound), f"{name}: {bound}")

    def test_no_local_name_hides_a_class_or_an_import(self):
        for name, tree in trees():
            taken = {alias.name for node in imports_of(tree) for alias in node.names}
            taken.update(node.name for node in tree.body if isinstance(node, ast.ClassDef))
            for node in ast.walk(tree):
                if isinstance(node, ast.FunctionDef):
                    self.assertEqual(taken.intersection(bound_names(node)), set(), f"{name}: {node.name}")

    def test_builtins_and_methods(self):
        own = {node.name for _, node in nodes(ast.FunctionDef)}
        for place, node in nodes(ast.Name):
            self.assertTrue(node.id in BUILTINS or not hasattr(builtins, node.id), place)
        for place, node in nodes(ast.Call):
            if isinstance(node.func, ast.Attribute):
                self.assertIn(node.func.attr, METHODS | own, place)
        for place, node in nodes(ast.Attribute):
            self.assertFalse(isinstance(node.ctx, ast.Store) and node.attr in BARRED_ATTRIBUTES, place)

    def test_no_generators_where_lists_are_due(self):
        for place, node in nodes(ast.Call):
            if isinstance(node.func, ast.Name) and node.func.id in TAKE_LISTS:
                self.assertEqual([given for given in node.args if isinstance(given, ast.GeneratorExp)], [], place)


if __name__ == "__main__":
    unittest.main()
