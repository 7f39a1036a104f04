"""The rules for the files of the package, as far as the code shows them."""

import ast
import builtins
import pathlib
import re
import unittest

PACKAGE = pathlib.Path(__file__).resolve().parent.parent / "rulerchest"

INTERFACE_ORDER = ["errors", "towers", "numbers", "squareroots", "numbertexts", "plane", "tools", "chests", "drawings",
                   "unfolding", "drawtexts", "readings", "sentences", "polynomials", "rootcounts", "trees", "verdicts",
                   "downsquares", "squarelists", "reckonings", "makings", "edgework", "edgesums", "deeds", "carrying",
                   "marks", "markings", "works", "journals", "desk"]

BUILTINS = set("""len range enumerate zip min max sum abs sorted reversed int str bool bytes list tuple dict set
isinstance ord repr any all divmod property""".split())

ERROR_BUILTINS = {"ValueError", "TypeError"}

METHODS = set("""append clear copy count endswith extend find get index insert isalnum isalpha isdigit islower isspace
isupper items join keys ljust lower lstrip partition pop remove replace reverse rfind rjust rpartition rsplit rstrip
setdefault split splitlines startswith strip update upper values zfill bit_length""".split())

LIBRARY = {"math": {"gcd", "lcm", "isqrt"}}

BANNED_NAMES = set("""register mro elements open input law version_info with_traceback add_note attrgetter breakpoint
builtins compile copyright credits delattr dir eval exec exit gc getattr globals hasattr help id importlib license
locals methodcaller os quit setattr super type vars sys hash next iter map round filter format property object
print bin hex oct pow float complex frozenset slice callable ascii chr memoryview bytearray staticmethod
classmethod""".split())

BANNED_WORDS = re.compile(r"\b(type|typing|typing_extensions|enum|Enum|IntEnum|StrEnum|Flag|IntFlag|Generic|Protocol|"
                          r"ABC|ABCMeta|namedtuple|NamedTuple|TypedDict|TYPE_CHECKING|abstractmethod)\b|dataclass|"
                          r"overload|contextmanager|_wall|_WallAttr")

STATEMENTS = (ast.Assign, ast.AugAssign, ast.If, ast.While, ast.For, ast.Return, ast.Break, ast.Continue, ast.Pass,
              ast.Raise, ast.Assert, ast.Delete, ast.Match, ast.Try, ast.Expr, ast.FunctionDef, ast.ClassDef,
              ast.ImportFrom, ast.With)

OWN_UNDERSCORES = ("__init__", "__eq__", "__len__", "__enter__", "__exit__", "_")

AT_ONCE = ("zip", "enumerate", "reversed", "range")
VIEWS = ("items", "keys", "values")


def trees():
    return {path.stem: (path, ast.parse(path.read_text())) for path in sorted(PACKAGE.glob("*.py"))}


def parents_of(tree):
    return {child: node for node in ast.walk(tree) for child in ast.iter_child_nodes(node)}


def bound_names(tree):
    """Every name that is assigned, taken as a parameter or defined, with its node."""
    for node in ast.walk(tree):
        if isinstance(node, ast.Name) and isinstance(node.ctx, (ast.Store, ast.Del)):
            yield node.id, node
        elif isinstance(node, ast.arg):
            yield node.arg, node
        elif isinstance(node, (ast.FunctionDef, ast.ClassDef)):
            yield node.name, node
        elif isinstance(node, ast.ExceptHandler) and node.name:
            yield node.name, node


class LanguageTests(unittest.TestCase):
    def each(self):
        return [(name, path, tree) for name, (path, tree) in trees().items()]

    def test_files(self):
        for path in PACKAGE.iterdir():
            if path.name != "__pycache__":
                self.assertRegex(path.name, r"^[a-z_][a-z0-9_]*\.py$")
                self.assertFalse(path.stem.startswith(("test", "law", "site", "conftest")))
        self.assertEqual([node for node in trees()["__init__"][1].body[1:]], [])

    def test_sizes_and_signs(self):
        for name, path, tree in self.each():
            text = path.read_text()
            lines = text.split("\n")
            self.assertLessEqual(len(lines), 399)
            for line in lines:
                self.assertLessEqual(len(line), 120, line)
                self.assertTrue(all(" " <= sign <= "~" for sign in line), line)
                self.assertEqual(line, line.rstrip())
            for node in ast.walk(tree):
                if isinstance(node, ast.FunctionDef):
                    self.assertLessEqual(node.end_lineno - node.lineno + 1, 40, node.name)
                    if not node.name.startswith("__"):
                        self.assertIsNotNone(ast.get_docstring(node), (name, node.name))

    def test_banned_words(self):
        for name, path, tree in self.each():
            docstrings = set()
            for node in ast.walk(tree):
                if isinstance(node, (ast.Module, ast.ClassDef, ast.FunctionDef)) and ast.get_docstring(node):
                    docstrings.add(node.body[0].value)
            for node in ast.walk(tree):
                if isinstance(node, ast.Constant) and isinstance(node.value, str) and node not in docstrings:
                    self.assertIsNone(BANNED_WORDS.search(node.value), node.value)
                    self.assertNotIn("%", node.value)
                if isinstance(node, ast.Constant):
                    self.assertNotIsInstance(node.value, (float, complex))
                for field in ("id", "attr", "arg", "name"):
                    value = getattr(node, field, None)
                    if isinstance(value, str):
                        self.assertIsNone(BANNED_WORDS.search(value), value)

    def test_imports(self):
        order = {}
        everything = trees()
        defined = {name: {node.name for node in tree.body if isinstance(node, (ast.FunctionDef, ast.ClassDef))}
                   | {target.id for node in tree.body if isinstance(node, ast.Assign) for target in node.targets}
                   for name, (_, tree) in everything.items()}
        edges = {}
        for name, path, tree in self.each():
            edges[name] = set()
            used = {node.id for node in ast.walk(tree) if isinstance(node, ast.Name)}
            seen_other = False
            for node in tree.body:
                if not isinstance(node, ast.ImportFrom):
                    seen_other = seen_other or not isinstance(node, ast.Expr)
                    continue
                self.assertFalse(seen_other, "imports at the top")
                for alias in node.names:
                    self.assertIsNone(alias.asname)
                    self.assertIn(alias.name, used, name)
                    if node.module in LIBRARY:
                        self.assertIn(alias.name, LIBRARY[node.module])
                    else:
                        package, module = node.module.split(".")
                        self.assertEqual(package, "rulerchest")
                        self.assertIn(alias.name, defined[module])
                        edges[name].add(module)
        for at, name in enumerate(INTERFACE_ORDER):
            reached, todo = set(), [name]
            while todo:
                for other in edges[todo.pop()]:
                    if other not in reached:
                        reached.add(other)
                        todo.append(other)
            self.assertFalse(reached & set(INTERFACE_ORDER[at:]), (name, reached))

    def test_statements(self):
        for name, path, tree in self.each():
            for node in ast.walk(tree):
                if isinstance(node, ast.stmt):
                    self.assertIsInstance(node, STATEMENTS, ast.dump(node)[:80])
                self.assertNotIsInstance(node, (ast.GeneratorExp, ast.Lambda, ast.Yield, ast.YieldFrom, ast.Await,
                                                ast.Div, ast.MatMult, ast.NamedExpr, ast.Starred, ast.Set, ast.SetComp))
                if isinstance(node, ast.ClassDef):
                    self.assertEqual(node.decorator_list, [])
                if isinstance(node, ast.FunctionDef) and node.decorator_list:
                    self.assertEqual([ast.unparse(item) for item in node.decorator_list], ["property"])
                    self.assertEqual([item.arg for item in node.args.args], ["self"])
                if isinstance(node, ast.Pow):
                    self.assertIn(name, ("digits", "wholesquares"), "a power")
                if isinstance(node, ast.ExceptHandler):
                    names = node.type.elts if isinstance(node.type, ast.Tuple) else [node.type]
                    for caught in names:
                        self.assertNotIn(caught.id, ("ValueError", "LookupError", "IndexError", "Exception"))
                if isinstance(node, ast.Compare) and any(isinstance(op, (ast.Is, ast.IsNot)) for op in node.ops):
                    for right in node.comparators:
                        self.assertIn(getattr(right, "value", 0), (None, True, False))
                if isinstance(node, ast.Raise):
                    self.assertIsInstance(node.exc, ast.Call)
                    self.assertIsInstance(node.exc.func, ast.Name)

    def test_module_level(self):
        for name, path, tree in self.each():
            for node in tree.body:
                self.assertIsInstance(node, (ast.Expr, ast.ImportFrom, ast.FunctionDef, ast.ClassDef, ast.Assign))
                if isinstance(node, ast.Assign):
                    self.assertEqual(len(node.targets), 1)
                    self.assertIsInstance(node.targets[0], ast.Name)
                    for inner in ast.walk(node.value):
                        self.assertNotIsInstance(inner, (ast.Call, ast.ListComp, ast.DictComp, ast.Attribute))

    def test_names(self):
        for name, path, tree in self.each():
            taken = {alias.name for node in tree.body if isinstance(node, ast.ImportFrom) for alias in node.names}
            classes = {node.name for node in tree.body if isinstance(node, ast.ClassDef)}
            top = [node.name for node in tree.body if isinstance(node, (ast.FunctionDef, ast.ClassDef))]
            top += [node.targets[0].id for node in tree.body if isinstance(node, ast.Assign)] + sorted(taken)
            self.assertEqual(len(top), len(set(top)), "bound twice")
            parents = parents_of(tree)
            for bound, node in bound_names(tree):
                self.assertTrue(bound in OWN_UNDERSCORES or re.fullmatch(r"[A-Za-z][A-Za-z0-9_]*", bound), bound)
                is_method = isinstance(node, ast.FunctionDef) and isinstance(parents[node], ast.ClassDef)
                if not is_method:
                    self.assertNotIn(bound, taken)
                self.assertNotIn(bound, BANNED_NAMES | set(dir(builtins)) - {"_"}, bound)
                if not isinstance(node, ast.ClassDef):
                    self.assertNotIn(bound, classes)

    def test_calls(self):
        everything = trees()
        methods = {inner.name for _, tree in everything.values() for node in tree.body if isinstance(node, ast.ClassDef)
                   for inner in node.body if isinstance(inner, ast.FunctionDef)}
        for name, path, tree in self.each():
            known = {bound for bound, _ in bound_names(tree)}
            known |= {alias.name for node in tree.body if isinstance(node, ast.ImportFrom) for alias in node.names}
            for node in ast.walk(tree):
                if isinstance(node, ast.Name) and isinstance(node.ctx, ast.Load) and node.id not in known:
                    self.assertIn(node.id, BUILTINS | ERROR_BUILTINS | {"super"}, node.id)
                if isinstance(node, ast.Call):
                    self.assertEqual([word.arg for word in node.keywords], [])
                    if isinstance(node.func, ast.Attribute):
                        self.assertIn(node.func.attr, METHODS | methods, node.func.attr)
                        self.assertNotEqual(node.func.attr, "sort")

    def test_iterated_at_once(self):
        for name, path, tree in self.each():
            parents = parents_of(tree)
            for node in ast.walk(tree):
                if not isinstance(node, ast.Call):
                    continue
                parent = parents[node]
                called = getattr(node.func, "id", None)
                view = isinstance(node.func, ast.Attribute) and node.func.attr in VIEWS
                if called in AT_ONCE or view:
                    at_once = isinstance(parent, (ast.For, ast.comprehension)) and parent.iter is node
                    inside = isinstance(parent, ast.Call) and getattr(parent.func, "id", None) in (
                        "list", "tuple", "dict", "sorted", "sum", "any", "all", "enumerate", "zip", "reversed")
                    self.assertTrue(at_once or inside, ast.unparse(node))
                    if inside and parent.func.id == "reversed":
                        self.assertEqual(called, "range")
                if called == "set":
                    inside = isinstance(parent, ast.Call) and getattr(parent.func, "id", None) in ("sorted", "len")
                    self.assertTrue(inside, ast.unparse(parent))

    def test_attributes(self):
        stored, read, properties = set(), set(), set()
        for name, path, tree in self.each():
            parents = parents_of(tree)
            for node in ast.walk(tree):
                if isinstance(node, ast.FunctionDef) and node.decorator_list:
                    properties.add(node.name)
                if isinstance(node, ast.Attribute):
                    if isinstance(node.ctx, ast.Store):
                        self.assertIsInstance(node.value, ast.Name, ast.unparse(node))
                        stored.add(node.attr)
                    elif not (isinstance(parents[node], ast.Call) and parents[node].func is node):
                        read.add(node.attr)
        self.assertFalse(read - stored - properties, "attributes that no class assigns")
        self.assertFalse(stored & properties, "properties that are assigned")
        self.assertFalse(stored & set("""items keys values pop update append clear extend insert remove reverse setdefault
            sort args encode decode hex fromhex format numerator denominator real imag""".split()))

    def test_loops_do_not_change_what_they_go_over(self):
        for name, path, tree in self.each():
            for loop in ast.walk(tree):
                if not isinstance(loop, ast.For):
                    continue
                over = {ast.unparse(node) for node in ast.walk(loop.iter) if isinstance(node, (ast.Name, ast.Attribute))}
                for node in ast.walk(loop):
                    if isinstance(node, ast.Call) and isinstance(node.func, ast.Attribute) and node.func.attr in (
                            "append", "pop", "extend", "insert", "remove", "clear", "update"):
                        self.assertNotIn(ast.unparse(node.func.value), over)
                    if isinstance(node, ast.Subscript) and isinstance(node.ctx, (ast.Store, ast.Del)):
                        self.assertNotIn(ast.unparse(node.value), over)

    def test_no_two_files_import_from_each_other(self):
        edges = {name: {node.module.split(".")[1] for node in tree.body
                        if isinstance(node, ast.ImportFrom) and node.module.startswith("rulerchest.")}
                 for name, path, tree in self.each()}
        for name in edges:
            reached, todo = set(), [name]
            while todo:
                for other in edges[todo.pop()] - reached:
                    reached.add(other)
                    todo.append(other)
            self.assertNotIn(name, reached)

    def test_calls_pass_what_functions_take(self):
        takes = {}
        for name, path, tree in self.each():
            for node in tree.body:
                if isinstance(node, ast.FunctionDef):
                    takes[name, node.name] = (len(node.args.args) - len(node.args.defaults), len(node.args.args))
                if isinstance(node, ast.ClassDef):
                    for made in node.body:
                        if isinstance(made, ast.FunctionDef) and made.name == "__init__":
                            many = len(made.args.args) - 1
                            takes[name, node.name] = (many - len(made.args.defaults), many)
        for name, path, tree in self.each():
            home = {alias.name: node.module.split(".")[-1] for node in tree.body if isinstance(node, ast.ImportFrom)
                    for alias in node.names}
            for node in ast.walk(tree):
                if isinstance(node, ast.Call):
                    self.assertIsInstance(node.func, (ast.Name, ast.Attribute), ast.unparse(node))
                    called = getattr(node.func, "id", None)
                    wanted = takes.get((home.get(called, name), called))
                    if wanted:
                        self.assertTrue(wanted[0] <= len(node.args) <= wanted[1], ast.unparse(node))

    def test_no_name_is_a_method_and_an_attribute(self):
        methods, attributes = set(), set()
        for name, path, tree in self.each():
            for node in ast.walk(tree):
                if isinstance(node, ast.ClassDef):
                    methods |= {made.name for made in node.body if isinstance(made, ast.FunctionDef)}
                if isinstance(node, ast.Attribute) and isinstance(node.ctx, ast.Store):
                    attributes.add(node.attr)
        # The interface wants both: OutOfReach has an attribute word, Work a method.
        self.assertEqual(methods & attributes, {"word"})
        self.assertFalse((methods - {"copy"}) & (set(dir(str)) | set(dir(list)) | set(dir(dict)) | set(dir(set)))
                         - {"__init__", "__eq__", "__len__"})
        self.assertFalse(attributes & (set(dir(str)) | set(dir(list)) | set(dir(dict)) | set(dir(set)) | set(dir(int))))

    def test_what_runs_in_an_equality_or_a_property_changes_nothing(self):
        functions = {}
        for name, path, tree in self.each():
            home = {alias.name: node.module.split(".")[-1] for node in tree.body if isinstance(node, ast.ImportFrom)
                    for alias in node.names}
            for node in ast.walk(tree):
                if isinstance(node, ast.FunctionDef):
                    functions.setdefault((name, node.name), []).append((node, home))
        todo = [(name, called) for name, called in functions if called in ("__eq__", "__len__", "chest", "steps", "log")]
        seen = set()
        while todo:
            name, called = todo.pop()
            if (name, called) in seen:
                continue
            seen.add((name, called))
            for function, home in functions[name, called]:
                own = {node.targets[0].id for node in ast.walk(function) if isinstance(node, ast.Assign)
                       and isinstance(node.targets[0], ast.Name) and ast.unparse(node.value) == "[]"}
                own -= {node.targets[0].id for node in ast.walk(function) if isinstance(node, ast.Assign)
                        and isinstance(node.targets[0], ast.Name) and ast.unparse(node.value) != "[]"}
                for node in ast.walk(function):
                    if isinstance(node, (ast.Attribute, ast.Subscript)):
                        self.assertIsInstance(node.ctx, ast.Load, (name, called, ast.unparse(node)))
                    if isinstance(node, ast.Call):
                        if isinstance(node.func, ast.Attribute):
                            if getattr(node.func.value, "id", None) not in own:
                                self.assertNotIn(node.func.attr, ("append", "extend", "pop", "setdefault", "update"))
                        elif (home.get(node.func.id, name), node.func.id) in functions:
                            todo.append((home.get(node.func.id, name), node.func.id))
        self.assertIn(("basis", "brought"), seen)


if __name__ == "__main__":
    unittest.main()
