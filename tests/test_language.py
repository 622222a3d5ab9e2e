"""Some rules of the Python subset that can be checked by looking at the files of the package."""

import ast
import builtins
import pathlib
import re
import unittest

PACKAGE = pathlib.Path(__file__).resolve().parent.parent / "lowerwords"
FILES = sorted(path for path in PACKAGE.rglob("*") if path.is_file() and "__pycache__" not in path.parts)

BUILTINS = set(
    "len range enumerate zip min max sum abs sorted reversed int str bool list tuple dict set isinstance ord repr"
    " any all divmod Exception ValueError TypeError KeyError IndexError LookupError ZeroDivisionError".split()
)
LIBRARY = {
    "heapq": set("heappush heappop heapify heapreplace heappushpop".split()),
    "math": set("gcd lcm isqrt comb perm factorial".split()),
    "itertools": set("product combinations permutations chain accumulate pairwise islice zip_longest".split()),
    "collections": {"defaultdict"},
}
VALUE_METHODS = set(
    "append clear copy count endswith extend find get index insert isalnum isalpha isdigit islower isspace isupper"
    " items join keys ljust lower lstrip partition pop remove replace reverse rfind rjust rpartition rsplit rstrip"
    " setdefault split splitlines startswith strip update upper values zfill bit_length add discard".split()
)
DOUBLE = set(
    "__init__ __eq__ __repr__ __str__ __len__ __iter__ __call__ __contains__ __enter__ __exit__".split()
)
CHANGING = set("append clear extend insert pop remove reverse setdefault sort update add discard".split())
BARRED = set("register mro elements open input law version_info with_traceback add_note".split())
BARRED_BEGINNINGS = (
    "_wall", "_pe_", "_dcw_", "_enum_", "_cm_", "_twin_re_", "_lay_", "_law_", "_stub_", "_sre", "_WallAttr", "__",
)
BARRED_PRIVATE = "_cold _tuplegetter _outside _record _written_out _member_names".split()
BARRED_WORDS = (
    "type typing typing_extensions enum Enum IntEnum StrEnum Flag IntFlag Generic Protocol ABC ABCMeta namedtuple"
    " NamedTuple TypedDict TYPE_CHECKING abstractmethod _wall _WallAttr"
).split()
BARRED_NODES = (
    ast.Global, ast.AsyncFunctionDef, ast.Await, ast.AsyncFor, ast.AsyncWith, ast.Div, ast.MatMult, ast.AnnAssign,
    ast.Import,
)


def nodes(path):
    """All nodes of a file."""
    return list(ast.walk(ast.parse(path.read_text(encoding="utf-8"))))


def parameters(node):
    """The names of the parameters of a function or lambda."""
    told = node.args
    plain = told.posonlyargs + told.args + told.kwonlyargs + [told.vararg, told.kwarg]
    return [parameter.arg for parameter in plain if parameter is not None]


def own_names(path):
    """All names that a file gives to something."""
    found = []
    for node in nodes(path):
        if isinstance(node, ast.Name) and isinstance(node.ctx, ast.Store):
            found.append(node.id)
        if isinstance(node, (ast.FunctionDef, ast.Lambda)):
            found.extend(parameters(node))
        if isinstance(node, (ast.FunctionDef, ast.ClassDef)):
            found.append(node.name)
        if isinstance(node, ast.ExceptHandler) and node.name:
            found.append(node.name)
    return found


def whole_names(value):
    """The names that may stand for the very thing that an expression gives, not for a copy or a part of it."""
    if isinstance(value, ast.Name):
        return {value.id}
    if isinstance(value, ast.IfExp):
        return whole_names(value.body) | whole_names(value.orelse)
    if isinstance(value, ast.BoolOp):
        return set().union(*[whole_names(part) for part in value.values])
    if isinstance(value, ast.NamedExpr):
        return whole_names(value.target) | whole_names(value.value)
    return set()


def same_names(function, names):
    """The names with all further ones that a function puts for them, or them for, by assignments."""
    found = set(names)
    pairs = [
        whole_names(target) | whole_names(node.value)
        for node in ast.walk(function)
        if isinstance(node, ast.Assign)
        for target in node.targets
    ]
    for _ in pairs:
        for pair in pairs:
            if pair & found and len(pair) > 1:
                found |= pair
    return found


def walked_names(walked):
    """The names of what a loop goes over, also through enumerate, zip, reversed, items and the like."""
    if isinstance(walked, ast.Call) and getattr(walked.func, "id", None) in ("enumerate", "zip", "reversed", "iter"):
        return set().union(*[walked_names(part) for part in walked.args])
    if isinstance(walked, ast.Call) and getattr(walked.func, "attr", None) in ("items", "keys", "values"):
        return walked_names(walked.func.value)
    return whole_names(walked)


def changed_names(node):
    """The names of what is changed directly under a node."""
    found = set()
    for part in ast.walk(node):
        if isinstance(part, ast.Call) and getattr(part.func, "attr", None) in CHANGING:
            found |= whole_names(part.func.value)
        if isinstance(part, ast.Subscript) and isinstance(part.ctx, (ast.Store, ast.Del)):
            found |= whole_names(part.value)
        if isinstance(part, ast.AugAssign):
            found |= whole_names(part.target)
    return found


def loops_that_change_what_they_walk(tree):
    """The lines of the loops in which what they walk is changed, by its name or by another one that it has."""
    lines = []
    for function in ast.walk(tree):
        if not isinstance(function, ast.FunctionDef):
            continue
        for loop in ast.walk(function):
            if isinstance(loop, ast.For):
                walked = same_names(function, walked_names(loop.iter))
                if any(walked & changed_names(row) for row in loop.body):
                    lines.append(loop.lineno)
    return lines


def imported_names(path):
    """All names that a file imports."""
    return [alias.name for node in nodes(path) if isinstance(node, ast.ImportFrom) for alias in node.names]


class Files(unittest.TestCase):
    def test_the_folder_holds_plain_files_alone(self):
        self.assertIn(PACKAGE / "__init__.py", FILES)
        for path in FILES:
            self.assertRegex(path.relative_to(PACKAGE).as_posix(), r"^[a-z0-9_]+\.py$")

    def test_lines_and_signs(self):
        for path in FILES:
            text = path.read_bytes()
            self.assertTrue(all(32 <= sign <= 126 or sign == 10 for sign in text), path)
            lines = text.decode("ascii").split("\n")
            self.assertLessEqual(len(lines), 399, path)
            for number, line in enumerate(lines, 1):
                self.assertLessEqual(len(line), 120, (path, number))
                self.assertEqual(line, line.rstrip(), (path, number))

    def test_functions_have_at_most_40_lines(self):
        for path in FILES:
            for node in nodes(path):
                if isinstance(node, ast.FunctionDef):
                    self.assertLessEqual(node.end_lineno - node.lineno + 1, 40, (path, node.name))

    def test_barred_words(self):
        for path in FILES:
            for word in BARRED_WORDS:
                self.assertIsNone(re.search(r"\b" + word + r"\b", path.read_text(encoding="utf-8")), (path, word))


class Statements(unittest.TestCase):
    def test_imports(self):
        for path in FILES:
            tree = ast.parse(path.read_text(encoding="utf-8"))
            for node in ast.walk(tree):
                if not isinstance(node, ast.ImportFrom):
                    continue
                self.assertIn(node, tree.body, path)
                self.assertEqual(node.level, 0, path)
                for alias in node.names:
                    self.assertIsNone(alias.asname, path)
                    if node.module in LIBRARY:
                        self.assertIn(alias.name, LIBRARY[node.module], path)
                        continue
                    self.assertRegex(node.module, r"^lowerwords\.[a-z]+$", path)
                    defined = ast.parse((PACKAGE / (node.module[len("lowerwords."):] + ".py")).read_text()).body
                    names = [getattr(part, "name", None) for part in defined]
                    names += [part.targets[0].id for part in defined if isinstance(part, ast.Assign)]
                    self.assertIn(alias.name, names, path)

    def test_imports_are_used_and_go_one_way(self):
        reached = {}
        for path in FILES:
            used = {node.id for node in nodes(path) if isinstance(node, ast.Name)}
            self.assertLessEqual(set(imported_names(path)), used, path)
            modules = [node.module for node in nodes(path) if isinstance(node, ast.ImportFrom)]
            reached["lowerwords." + path.stem] = {module for module in modules if module not in LIBRARY}
        for _ in reached:
            for modules in reached.values():
                modules.update(*[reached[module] for module in modules])
        for module, modules in reached.items():
            self.assertNotIn(module, modules)

    def test_barred_nodes(self):
        for path in FILES:
            for node in nodes(path):
                self.assertNotIsInstance(node, BARRED_NODES, (path, getattr(node, "lineno", 0)))

    def test_decorators_are_properties_alone(self):
        for path in FILES:
            for node in nodes(path):
                for decorator in getattr(node, "decorator_list", []):
                    self.assertEqual(getattr(decorator, "id", None), "property", (path, node.lineno))

    def test_generator_expressions_stand_nowhere(self):
        for path in FILES:
            for node in nodes(path):
                self.assertNotIsInstance(node, ast.GeneratorExp, (path, getattr(node, "lineno", 0)))

    def test_sets_are_not_iterated(self):
        for path in FILES:
            for node in nodes(path):
                if isinstance(node, (ast.For, ast.comprehension)):
                    self.assertNotIsInstance(node.iter, (ast.Set, ast.SetComp), path)
                    called = getattr(getattr(node.iter, "func", None), "id", None)
                    self.assertNotEqual(called, "set", path)

    def test_no_loop_changes_what_it_walks(self):
        for path in FILES:
            self.assertEqual(loops_that_change_what_they_walk(ast.parse(path.read_text(encoding="utf-8"))), [], path)

    def test_loops_that_change_what_they_walk_are_seen(self):
        head = "def grown(edge, further):\n"
        for rows in (
            "    for old in edge:\n        edge.append(old)",
            "    for at, old in enumerate(edge):\n        edge[at] = 0",
            "    for old in edge:\n        further.append(old)\n    edge = further",
            "    both = edge\n    further = both\n    for old in reversed(edge):\n        further += [1]",
            "    edge = further if further else edge\n    for old in edge:\n        del further[0]",
        ):
            self.assertEqual(len(loops_that_change_what_they_walk(ast.parse(head + rows))), 1, rows)
        for rows in (
            "    for old in list(edge):\n        edge.append(old)",
            "    for old in edge:\n        further.append(old)\n    edge = list(further)",
            "    for old in edge:\n        further[old] = edge\n        further = further + edge",
        ):
            self.assertEqual(loops_that_change_what_they_walk(ast.parse(head + rows)), [], rows)

    def test_exponents_are_literals(self):
        for path in FILES:
            for node in nodes(path):
                if isinstance(node, ast.BinOp) and isinstance(node.op, ast.Pow):
                    self.assertIsInstance(node.right, ast.Constant, (path, node.lineno))

    def test_strings(self):
        for path in FILES:
            for node in nodes(path):
                if isinstance(node, ast.Constant) and isinstance(node.value, str):
                    self.assertNotIn("%", node.value, (path, node.lineno))
                self.assertNotIsInstance(getattr(node, "value", None), (float, complex), path)


class Names(unittest.TestCase):
    def test_no_name_has_another_meaning(self):
        for path in FILES:
            for name in own_names(path):
                if name in DOUBLE:
                    continue
                self.assertFalse(hasattr(builtins, name), (path, name))
                self.assertNotIn(name, BARRED, path)
                self.assertFalse(name.startswith(BARRED_BEGINNINGS), (path, name))
                self.assertNotIn(name.rstrip("0123456789_"), BARRED_PRIVATE, path)
                self.assertRegex(name, r"^_?[A-Za-z][A-Za-z0-9_]*$|^_$", path)

    def test_no_local_name_is_that_of_an_import(self):
        for path in FILES:
            self.assertEqual(set(own_names(path)) & set(imported_names(path)), set(), path)

    def test_no_local_name_is_that_of_a_class(self):
        for path in FILES:
            classes = {node.name for node in nodes(path) if isinstance(node, ast.ClassDef)}
            self.assertEqual(len([name for name in own_names(path) if name in classes]), len(classes), path)

    def test_builtins(self):
        for path in FILES:
            for node in nodes(path):
                if isinstance(node, ast.Name) and hasattr(builtins, node.id):
                    self.assertIn(node.id, BUILTINS | {"property", "iter"}, (path, node.lineno))

    def test_methods_of_values(self):
        own = {node.name for path in FILES for node in nodes(path) if isinstance(node, ast.FunctionDef)}
        for path in FILES:
            for node in nodes(path):
                if isinstance(node, ast.Call) and isinstance(node.func, ast.Attribute):
                    self.assertIn(node.func.attr, VALUE_METHODS | own, (path, node.lineno))

    def test_generators_are_iterated_on_the_spot(self):
        found = {
            node.name
            for path in FILES
            for node in nodes(path)
            if isinstance(node, ast.FunctionDef) and any(isinstance(part, ast.Yield) for part in ast.walk(node))
        }
        for path in FILES:
            whole = nodes(path)
            loops = [node.iter for node in whole if isinstance(node, (ast.For, ast.comprehension))]
            calls = [node.args[0] for node in whole if isinstance(node, ast.Call) and node.args]
            for node in whole:
                if isinstance(node, ast.Call) and getattr(node.func, "id", None) in found:
                    self.assertTrue(node in loops or node in calls, (path, node.lineno))


if __name__ == "__main__":
    unittest.main()
