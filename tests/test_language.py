"""The rules of LANGUAGE.md that can be read off the package's files; narrower than these where the package is."""

import ast
import builtins
import re
import unittest
from pathlib import Path

PACKAGE = Path(__file__).resolve().parent.parent / "letterround"
LIBRARY = {"heapq": "heappush heappop heapify heapreplace heappushpop", "math": "gcd lcm isqrt comb perm factorial",
           "itertools": "product combinations permutations chain accumulate pairwise islice zip_longest"}
BUILTINS = ("len range enumerate zip min max sum abs sorted reversed int str bool list tuple dict set isinstance ord "
            "repr any all divmod ValueError").split()
METHODS = ("append clear copy count endswith extend find get index insert isalnum isalpha isdigit islower isspace "
           "isupper items join keys ljust lower lstrip partition pop remove replace reverse rfind rjust rpartition "
           "rsplit rstrip setdefault split splitlines startswith strip update upper values zfill bit_length").split()
CHANGING = "append clear extend insert pop remove reverse setdefault update".split()
BARRED = ("register mro elements open input law version_info with_traceback add_note attrgetter breakpoint builtins "
          "compile copyright credits delattr dir eval exec exit gc getattr globals hasattr help id importlib license "
          "locals methodcaller os quit setattr super type vars sys").split()
WORDS = ("type typing typing_extensions enum Enum IntEnum StrEnum Flag IntFlag Generic Protocol ABC ABCMeta namedtuple "
         "NamedTuple TypedDict TYPE_CHECKING abstractmethod").split()
NOT_USED = (ast.AsyncFor, ast.AsyncFunctionDef, ast.AsyncWith, ast.Await, ast.Global, ast.Nonlocal, ast.With, ast.Match,
            ast.GeneratorExp, ast.Yield, ast.YieldFrom, ast.NamedExpr, ast.JoinedStr, ast.Set, ast.SetComp,
            ast.Import, ast.Div, ast.MatMult, ast.Pow, ast.AnnAssign)
AT_ONCE = "list tuple dict sorted sum any all enumerate zip".split()
LOOPS = (ast.ListComp, ast.DictComp)


def files():
    return sorted(PACKAGE.glob("*.py"))


def trees():
    return {path.stem: ast.parse(path.read_text(encoding="ascii")) for path in files()}


def parents_of(tree):
    return {child: node for node in ast.walk(tree) for child in ast.iter_child_nodes(node)}


def bound_at_top(tree):
    """The names that a file binds, in order, imports among them."""
    told = []
    for node in tree.body:
        if isinstance(node, ast.ImportFrom):
            told += [alias.name for alias in node.names]
        elif isinstance(node, (ast.FunctionDef, ast.ClassDef)):
            told.append(node.name)
        elif isinstance(node, ast.Assign):
            told.append(node.targets[0].id)
    return told


def functions(tree):
    return [node for node in ast.walk(tree) if isinstance(node, ast.FunctionDef)]


def local_names(function):
    """The names that a function binds."""
    arguments = function.args
    told = [arg.arg for arg in arguments.args + arguments.kwonlyargs + arguments.posonlyargs]
    for node in ast.walk(function):
        if isinstance(node, ast.Name) and isinstance(node.ctx, ast.Store):
            told.append(node.id)
        if isinstance(node, ast.Lambda):
            told += [arg.arg for arg in node.args.args]
    return told


class Language(unittest.TestCase):
    def test_files_l1_l10_l14(self):
        self.assertEqual(sorted(path.name for path in PACKAGE.iterdir() if path.name != "__pycache__"),
                         [path.name for path in files()])
        self.assertLess(len(files()), 101)
        for path in files():
            text = path.read_bytes()
            self.assertTrue(all(byte == 10 or 32 <= byte <= 126 for byte in text), path.name)
            self.assertRegex(path.stem, r"\A([a-z][a-z0-9_]*|__init__)\Z")
            self.assertNotIn(path.stem, dir(builtins))
            lines = text.decode("ascii").split("\n")
            self.assertLess(len(lines), 400, path.name)
            self.assertLess(max(map(len, lines)), 121, path.name)
            for word in WORDS:
                code = "\n".join(re.sub(r"#.*", "", line) for line in lines)
                self.assertIsNone(re.search(rf"\b{word}\b", re.sub(r'""".*?"""', "", code, flags=re.S)), word)

    def test_module_level_l3_l15(self):
        for name, tree in trees().items():
            top = bound_at_top(tree)
            self.assertEqual(len(top), len(set(top)), name)
            for place, node in enumerate(tree.body):
                if isinstance(node, ast.Expr):
                    self.assertTrue(place == 0 and isinstance(node.value, ast.Constant))
                elif isinstance(node, ast.Assign):
                    defined = [part.name for part in tree.body[:place] if isinstance(part, ast.FunctionDef)]
                    self.assertTrue(len(node.targets) == 1 and self.is_plain(node.value, defined), name)
                else:
                    self.assertIsInstance(node, (ast.ImportFrom, ast.FunctionDef, ast.ClassDef))

    def is_plain(self, value, defined):
        """Tells whether a value at module level is a literal, a tuple of such, or a dict from literals to these."""
        if isinstance(value, ast.Dict):
            return all(isinstance(key, ast.Constant) for key in value.keys) and all(
                isinstance(part, (ast.Constant, ast.Tuple, ast.Name)) and self.is_plain(part, defined)
                for part in value.values)
        if isinstance(value, ast.Tuple):
            return all(isinstance(part, ast.Constant) for part in value.elts)
        return isinstance(value, ast.Constant) or (isinstance(value, ast.Name) and value.id in defined)

    def test_tables_are_only_read_l15(self):
        for name, tree in trees().items():
            tables = [node.targets[0].id for node in tree.body
                      if isinstance(node, ast.Assign) and isinstance(node.value, ast.Dict)]
            above = parents_of(tree)
            for node in ast.walk(tree):
                if isinstance(node, ast.Name) and node.id in tables and isinstance(node.ctx, ast.Load):
                    there = above[node]
                    if isinstance(there, ast.Subscript):
                        self.assertIsInstance(there.ctx, ast.Load, (name, node.lineno))
                        self.assertNotIsInstance(above[there], ast.Attribute, (name, node.lineno))
                        self.assertFalse(isinstance(above[there], ast.Call) and above[there].func is there)
                    else:
                        self.assertIsInstance(there, ast.Compare, (name, node.lineno))
                        self.assertIsInstance(there.ops[0], (ast.In, ast.NotIn), (name, node.lineno))

    def test_finally_l6(self):
        for name, tree in trees().items():
            for node in ast.walk(tree):
                if isinstance(node, ast.Try):
                    self.assertEqual((node.handlers, node.orelse, len(node.finalbody)), ([], [], 1), name)
                    done = node.finalbody[0]
                    self.assertIsInstance(done, ast.Assign)
                    for side in (done.targets[0], done.value):
                        self.assertTrue(all(isinstance(part, (ast.Name, ast.Attribute)) for part in side.elts), name)

    def test_imports_l2_l16(self):
        there = trees()
        needs = {}
        for name, tree in there.items():
            needs[name] = []
            for node in ast.walk(tree):
                if not isinstance(node, ast.ImportFrom):
                    continue
                self.assertIn(node, tree.body)
                self.assertEqual((node.level, [alias.asname for alias in node.names if alias.asname]), (0, []))
                if node.module in LIBRARY:
                    self.assertLessEqual({alias.name for alias in node.names}, set(LIBRARY[node.module].split()))
                    continue
                package, file = node.module.split(".")
                self.assertEqual(package, "letterround")
                needs[name].append(file)
                own = [part.name for part in there[file].body if isinstance(part, (ast.FunctionDef, ast.ClassDef))]
                own += [part.targets[0].id for part in there[file].body if isinstance(part, ast.Assign)]
                self.assertLessEqual({alias.name for alias in node.names}, set(own))
        self.check_no_ring(needs)

    def check_no_ring(self, needs):
        left = dict(needs)
        while left:
            ready = [name for name in left if not any(file in left for file in left[name])]
            self.assertTrue(ready, left)
            left = {name: left[name] for name in left if name not in ready}

    def test_all_that_is_imported_is_used(self):
        for name, tree in trees().items():
            used = {node.id for node in ast.walk(tree) if isinstance(node, ast.Name)}
            for node in tree.body:
                if isinstance(node, ast.ImportFrom):
                    self.assertLessEqual({alias.name for alias in node.names}, used, name)

    def test_statements_and_values_l4_l6_l7(self):
        for name, tree in trees().items():
            for node in ast.walk(tree):
                self.assertNotIsInstance(node, NOT_USED, (name, getattr(node, "lineno", 0)))
                if isinstance(node, (ast.FunctionDef, ast.ClassDef)):
                    self.assertEqual(node.decorator_list, [])
                if isinstance(node, ast.FunctionDef):
                    self.assertLessEqual(node.end_lineno - node.lineno + 1, 40, node.name)
                    self.assertEqual((node.args.defaults, node.args.vararg, node.args.kwarg), ([], None, None))
                if isinstance(node, ast.Constant):
                    self.assertIsInstance(node.value, (int, str, type(None)))
                    if isinstance(node.value, str):
                        self.assertFalse("%" in node.value or "\\" in node.value)
                        self.assertFalse(node.value.startswith("__"))
                if isinstance(node, ast.Delete):
                    self.assertTrue(all(isinstance(part, ast.Subscript) for part in node.targets))
                if isinstance(node, ast.Compare) and any(isinstance(part, (ast.Is, ast.IsNot)) for part in node.ops):
                    self.assertTrue(all(isinstance(part, ast.Constant) for part in node.comparators))

    def test_stars_l7(self):
        for name, tree in trees().items():
            for node in ast.walk(tree):
                if isinstance(node, ast.Subscript):
                    stars = [part for part in ast.walk(node.slice) if isinstance(part, ast.Starred)]
                    self.assertEqual(stars, [], (name, node.lineno))
                if isinstance(node, ast.Call):
                    for part in node.args:
                        if isinstance(part, ast.Starred):
                            self.assertIsInstance(part.value, (ast.Name, ast.List, ast.Tuple), (name, node.lineno))
                    self.assertTrue(all(part.arg for part in node.keywords), (name, node.lineno))
                if isinstance(node, ast.Dict):
                    for key, value in zip(node.keys, node.values):
                        self.assertTrue(key is not None or isinstance(value, ast.Name), (name, node.lineno))

    def test_names_in_comprehensions_l7(self):
        kinds = (ast.ListComp, ast.DictComp, ast.Lambda)
        for name, tree in trees().items():
            for node in ast.walk(tree):
                if isinstance(node, kinds):
                    inner = [part for part in ast.walk(node) if isinstance(part, kinds) and part is not node]
                    bound = {word for part in inner for word in self.bound_by(part)}
                    self.assertFalse(bound & set(self.bound_by(node)), (name, node.lineno))

    def bound_by(self, node):
        """The names that a comprehension or a lambda binds itself."""
        if isinstance(node, ast.Lambda):
            return [arg.arg for arg in node.args.args]
        return [part.id for loop in node.generators for part in ast.walk(loop.target) if isinstance(part, ast.Name)]

    def test_names_l8_l12_l15_l17(self):
        for name, tree in trees().items():
            top = bound_at_top(tree)
            taken = [alias.name for node in tree.body if isinstance(node, ast.ImportFrom) for alias in node.names]
            taken += [node.name for node in tree.body if isinstance(node, ast.ClassDef)]
            for function in functions(tree):
                bound = local_names(function)
                for word in bound:
                    self.assertNotIn(word, taken, (name, function.name))
                    self.assertNotIn(word, dir(builtins) + BARRED, (name, function.name))
                    self.assertFalse(word.startswith("__"))
                for node in ast.walk(function):
                    if isinstance(node, ast.Name) and isinstance(node.ctx, ast.Load):
                        self.assertIn(node.id, bound + top + BUILTINS, (name, function.name))
                        self.assertNotEqual(node.id, "_")
            for word in top:
                self.assertNotIn(word, dir(builtins) + BARRED)

    def test_builtins_are_called_l8_l22(self):
        for name, tree in trees().items():
            above = parents_of(tree)
            bound = {word for function in functions(tree) for word in local_names(function)} | set(bound_at_top(tree))
            for node in ast.walk(tree):
                if isinstance(node, ast.Name) and node.id in BUILTINS and node.id not in bound:
                    call = above[node]
                    if isinstance(call, ast.Tuple):
                        call = above[call]
                    if isinstance(call, ast.ClassDef):
                        continue
                    self.assertIsInstance(call, ast.Call, (name, node.lineno))
                    if call.func is node:
                        self.assertLessEqual({part.arg for part in call.keywords}, {"key", "reverse", "default"})
                    else:
                        self.assertEqual((call.func.id, call.args.index(node) if node in call.args else 1),
                                         ("isinstance", 1))

    def test_methods_l25_l26(self):
        own = {}
        for tree in trees().values():
            for node in ast.walk(tree):
                if isinstance(node, ast.ClassDef):
                    own.update({part.name: True for part in node.body if isinstance(part, ast.FunctionDef)})
        attributes = {node.attr for tree in trees().values() for node in ast.walk(tree)
                      if isinstance(node, ast.Attribute) and isinstance(node.ctx, ast.Store)}
        self.assertFalse([word for word in own if word in CHANGING or word in attributes])
        for name, tree in trees().items():
            above = parents_of(tree)
            for node in ast.walk(tree):
                if isinstance(node, ast.Attribute):
                    call = above[node]
                    if isinstance(call, ast.Call) and call.func is node:
                        self.assertIn(node.attr, METHODS + list(own), name)
                        self.assertEqual(call.keywords, [])
                    else:
                        self.assertIn(node.attr, attributes, (name, node.lineno))

    def test_iterated_at_once_l23_l24(self):
        for name, tree in trees().items():
            above = parents_of(tree)
            for node in ast.walk(tree):
                if isinstance(node, ast.Call) and self.is_row(node):
                    there = above[node]
                    if isinstance(there, ast.Call):
                        good = isinstance(there.func, ast.Name) and there.args[0] is node
                        good = good and (there.func.id in AT_ONCE or there.func.id in ("min", "max"))
                        if there.func.id == "reversed":
                            good = node.func.id == "range"
                    else:
                        good = isinstance(there, (ast.For, ast.comprehension)) and there.iter is node
                    self.assertTrue(good, (name, node.lineno))
                if isinstance(node, ast.Call) and isinstance(node.func, ast.Name) and node.func.id == "set":
                    self.assertIn(above[node].func.id, ("len", "sorted"))

    def is_row(self, call):
        if isinstance(call.func, ast.Name):
            return call.func.id in ("range", "zip", "enumerate", "reversed")
        return isinstance(call.func, ast.Attribute) and call.func.attr in ("items", "keys", "values")

    def test_what_a_loop_goes_over_is_not_changed_l23(self):
        for name, tree in trees().items():
            for loop in ast.walk(tree):
                if isinstance(loop, ast.For):
                    over = {ast.unparse(node) for node in ast.walk(loop.iter)
                            if isinstance(node, (ast.Name, ast.Attribute, ast.Subscript))}
                    changed = {thing for node in loop.body for thing in self.changed_in(node)}
                    self.assertFalse(over & changed, (name, loop.lineno))

    def changed_in(self, tree):
        told = []
        for node in ast.walk(tree):
            if isinstance(node, ast.Subscript) and not isinstance(node.ctx, ast.Load):
                told.append(ast.unparse(node.value))
            if isinstance(node, ast.Call) and isinstance(node.func, ast.Attribute) and node.func.attr in CHANGING:
                told.append(ast.unparse(node.func.value))
        return told

    def test_lambdas_are_keys_l22(self):
        for tree in trees().values():
            above = parents_of(tree)
            for node in ast.walk(tree):
                if isinstance(node, ast.Lambda):
                    self.assertIsInstance(above[node], ast.keyword)
                    self.assertEqual((above[node].arg, len(node.args.args)), ("key", 1))

    def test_calls_pass_what_is_taken_l22(self):
        takes = {}
        for tree in trees().values():
            for node in tree.body:
                if isinstance(node, ast.FunctionDef):
                    self.assertNotIn(node.name, takes)
                    takes[node.name] = len(node.args.args)
                if isinstance(node, ast.ClassDef):
                    inits = [part for part in node.body if getattr(part, "name", "") == "__init__"]
                    takes[node.name] = len(inits[0].args.args) - 1 if inits else 0
        for name, tree in trees().items():
            for node in ast.walk(tree):
                if isinstance(node, ast.Call) and isinstance(node.func, ast.Name) and node.func.id in takes:
                    if not any(isinstance(arg, ast.Starred) for arg in node.args):
                        self.assertEqual(len(node.args) + len(node.keywords), takes[node.func.id], (name, node.lineno))


if __name__ == "__main__":
    unittest.main()
