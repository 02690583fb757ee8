"""What a script can see of the rules for the package's own code, L1 to L28."""

import ast
import builtins
import os
import re
import unittest

TOP = os.path.dirname(os.path.dirname(os.path.abspath(__file__)))
FOLDER = os.path.join(TOP, "lotkeepers")

LIBRARY = {
    "math": {"gcd", "lcm", "isqrt", "comb", "perm", "factorial"},
}
CALLED = """len range enumerate zip min max sum abs sorted reversed int str bool list tuple dict set isinstance ord repr any all
divmod ValueError""".split()
METHODS = """append clear copy count endswith extend find get index insert isalnum isalpha isdigit islower isspace isupper items
join keys ljust lower lstrip partition pop remove replace reverse rfind rjust rpartition rsplit rstrip setdefault split
splitlines startswith strip update upper values zfill bit_length add discard""".split()
BARRED_NAMES = """register mro elements open input law version_info with_traceback add_note attrgetter breakpoint builtins compile
copyright credits delattr dir eval exec exit gc getattr globals hasattr help id importlib license locals methodcaller os
quit setattr super type vars sys _cold _tuplegetter _outside _record _written_out _member_names iter next map""".split()
BARRED_STARTS = "__ _wall _pe_ _dcw_ _enum_ _cm_ _twin_re_ _lay_ _law_ _stub_ _sre _WallAttr".split()
BARRED_WORDS = """type typing typing_extensions enum Enum IntEnum StrEnum Flag IntFlag Generic Protocol ABC ABCMeta namedtuple
NamedTuple TypedDict TYPE_CHECKING abstractmethod _wall _WallAttr""".split()
BARRED_ATTRIBUTES = """items keys values pop update append clear extend insert remove reverse setdefault sort args encode decode hex
fromhex format format_map mro""".split()
DUNDERS = "__init__ __eq__ __len__ __contains__ __repr__ __str__ __enter__ __exit__".split()
STATEMENTS = (ast.FunctionDef, ast.ClassDef, ast.Return, ast.Assign, ast.AugAssign, ast.For, ast.While, ast.If, ast.Raise,
              ast.Expr, ast.Pass, ast.Break, ast.Continue, ast.ImportFrom, ast.Try, ast.With)
BARRED_NODES = (ast.GeneratorExp, ast.Lambda, ast.Await, ast.Yield, ast.YieldFrom, ast.AnnAssign, ast.NamedExpr, ast.Set,
                ast.FormattedValue, ast.Starred, ast.Global, ast.Nonlocal, ast.Delete, ast.Assert,
                ast.AsyncFunctionDef, ast.Div, ast.MatMult, ast.Mod, ast.Pow, ast.Import)
AT_ONCE = "zip enumerate reversed range".split()


def files():
    return sorted(os.listdir(FOLDER))


def source(name):
    with open(os.path.join(FOLDER, name), encoding="utf-8") as held:
        return held.read()


def sources():
    return [(name, source(name)) for name in files() if name != "__pycache__"]


def trees():
    return [(name, ast.parse(text)) for name, text in sources()]


def functions(tree):
    return [node for node in ast.walk(tree) if isinstance(node, ast.FunctionDef)]


def parameters(function):
    kinds = function.args
    return [arg.arg for arg in kinds.posonlyargs + kinds.args + kinds.kwonlyargs]


def bound_names(function):
    """Parameters and all names that the function assigns, comprehensions included."""
    stored = [node.id for node in ast.walk(function) if isinstance(node, ast.Name) and isinstance(node.ctx, ast.Store)]
    return parameters(function) + stored


def module_names(tree):
    found = []
    for node in tree.body:
        if isinstance(node, (ast.FunctionDef, ast.ClassDef)):
            found.append(node.name)
        elif isinstance(node, ast.Assign):
            found.extend(target.id for target in node.targets)
        elif isinstance(node, ast.ImportFrom):
            found.extend(alias.name for alias in node.names)
    return found


def imports(tree):
    return [node for node in tree.body if isinstance(node, ast.ImportFrom)]


def docstrings(tree):
    kinds = (ast.Module, ast.ClassDef, ast.FunctionDef)
    return [node.body[0].value for node in ast.walk(tree) if isinstance(node, kinds) and node.body
            and isinstance(node.body[0], ast.Expr) and isinstance(node.body[0].value, ast.Constant)]


def parents(tree):
    return {inner: node for node in ast.walk(tree) for inner in ast.iter_child_nodes(node)}


def called(node):
    """The name of the builtin or function that is called, if it is called by a name."""
    return node.func.id if isinstance(node, ast.Call) and isinstance(node.func, ast.Name) else None


class TestFiles(unittest.TestCase):
    def test_folder(self):
        for name in files():
            self.assertTrue(re.fullmatch(r"[a-z_]+\.py", name) or name == "__pycache__", name)
            self.assertFalse(re.match(r"law_|tests?\b|testing|test_|site\b|conftest|sitecustomize|usercustomize", name), name)
            self.assertFalse(hasattr(builtins, name[:-3]) and name != "__init__.py", name)
            self.assertNotIn(name[:-3], BARRED_NAMES + ["heapq", "math", "itertools"])
        self.assertIn("__init__.py", files())
        self.assertLessEqual(len(files()), 100)

    def test_sizes(self):
        for name, text in sources():
            self.assertLessEqual(len(text.splitlines()), 399, name)
            for line in text.splitlines():
                self.assertLessEqual(len(line), 120, (name, line))
        for name, tree in trees():
            for function in functions(tree):
                self.assertLessEqual(function.end_lineno - function.lineno + 1, 40, (name, function.name))

    def test_characters(self):
        for name, text in sources():
            self.assertTrue(all(sign == "\n" or " " <= sign <= "~" for sign in text), name)

    def test_words(self):
        for name, text in sources():
            bare = "\n".join(line.split("#")[0] for line in text.splitlines())
            for held in docstrings(ast.parse(text)):
                bare = bare.replace(held.value, "")
            for word in BARRED_WORDS:
                self.assertIsNone(re.search(r"\b" + word + r"\b", bare), (name, word))
            for word in ("dataclass", "overload", "contextmanager"):
                self.assertNotIn(word, bare, name)


class TestImports(unittest.TestCase):
    def test_forms(self):
        for name, tree in trees():
            for node in ast.walk(tree):
                self.assertNotIsInstance(node, ast.Import, name)
                if not isinstance(node, ast.ImportFrom):
                    continue
                self.assertIn(node, tree.body, name)
                self.assertEqual(node.level, 0, name)
                for alias in node.names:
                    self.assertIsNone(alias.asname, name)
                    self.assertNotEqual(alias.name, "*", name)
                    if node.module in LIBRARY:
                        self.assertIn(alias.name, LIBRARY[node.module], name)
                    else:
                        self.assertTrue(node.module.startswith("lotkeepers."), (name, node.module))

    def test_they_stand_at_the_top(self):
        for name, tree in trees():
            kinds = [isinstance(node, ast.ImportFrom) for node in tree.body if node.__class__ is not ast.Expr]
            self.assertEqual(kinds, sorted(kinds, reverse=True), name)

    def test_from_the_very_file_that_defines(self):
        for name, tree in trees():
            for node in imports(tree):
                if node.module in LIBRARY:
                    continue
                below = ast.parse(source(node.module.split(".")[1] + ".py"))
                own = [row for row in below.body if not isinstance(row, ast.ImportFrom)]
                for alias in node.names:
                    self.assertIn(alias.name, module_names(ast.Module(own, [])), (name, alias.name))

    def test_each_import_is_used(self):
        for name, tree in trees():
            used = {node.id for node in ast.walk(tree) if isinstance(node, ast.Name)}
            for node in imports(tree):
                self.assertLessEqual({alias.name for alias in node.names}, used, name)

    def test_no_circles(self):
        ahead = {name[:-3]: [node.module.split(".")[1] for node in imports(tree) if node.module not in LIBRARY]
                 for name, tree in trees()}
        while ahead:
            free = [name for name in ahead if not any(other in ahead for other in ahead[name])]
            self.assertTrue(free, ahead)
            ahead = {name: ahead[name] for name in ahead if name not in free}


class TestNames(unittest.TestCase):
    def test_module_level(self):
        for name, tree in trees():
            names = module_names(tree)
            self.assertEqual(len(names), len(set(names)), name)
            for node in tree.body:
                self.assertIsInstance(node, (ast.Expr, ast.ImportFrom, ast.FunctionDef, ast.ClassDef, ast.Assign), name)
                if isinstance(node, ast.Expr):
                    self.assertIn(node.value, docstrings(tree), name)
                if isinstance(node, ast.Assign):
                    self.assertEqual(len(node.targets), 1, name)
                    held = ast.literal_eval(node.value)
                    inner = list(held.values()) if isinstance(held, dict) else [held]
                    self.assertTrue(all(isinstance(value, (int, str, tuple)) for value in inner), name)

    def test_names_of_others_are_not_taken(self):
        for name, tree in trees():
            held = [alias.name for node in imports(tree) for alias in node.names]
            held += [node.name for node in tree.body if isinstance(node, ast.ClassDef)]
            # Names of the file's own functions are left alone, too: nothing is gained by hiding them.
            held += [node.name for node in tree.body if isinstance(node, ast.FunctionDef)]
            for function in functions(tree):
                for word in bound_names(function):
                    self.assertNotIn(word, held, (name, function.name))

    def test_builtins_and_barred_names(self):
        for name, tree in trees():
            words = module_names(tree)
            for function in functions(tree):
                words += bound_names(function)
            for word in words:
                self.assertFalse(hasattr(builtins, word) and word != "_", (name, word))
                self.assertNotIn(word, BARRED_NAMES, name)
                self.assertFalse(any(word.startswith(start) for start in BARRED_STARTS), (name, word))
                self.assertRegex(word, r"\A(_|_?[A-Za-z][A-Za-z0-9_]*)\Z", name)

    def test_a_bare_underscore_is_not_read(self):
        for name, tree in trees():
            for node in ast.walk(tree):
                if isinstance(node, ast.Name) and node.id == "_":
                    self.assertIsInstance(node.ctx, ast.Store, name)

    def test_attributes(self):
        stored = set()
        read = set()
        methods = set()
        for _, tree in trees():
            for node in ast.walk(tree):
                if isinstance(node, ast.Attribute):
                    (stored if isinstance(node.ctx, ast.Store) else read).add(node.attr)
                if isinstance(node, ast.ClassDef):
                    methods |= {row.name for row in node.body if isinstance(row, ast.FunctionDef)}
        self.assertFalse(stored & set(BARRED_ATTRIBUTES))
        self.assertFalse(stored & methods)
        # L26 lets methods be called as those that L25 lists.
        for word in stored | methods - set(DUNDERS) - set(METHODS):
            for value in ("", 0, [], {}, set(), b"", ()):
                self.assertFalse(hasattr(value, word), word)
        self.assertLessEqual(read, stored | methods | set(METHODS))


class TestClasses(unittest.TestCase):
    def test_bodies(self):
        for name, tree in trees():
            for node in ast.walk(tree):
                if not isinstance(node, ast.ClassDef):
                    continue
                self.assertIn(node, tree.body, name)
                self.assertFalse(node.decorator_list or node.keywords, name)
                self.assertLessEqual(len(node.bases), 1, name)
                for row in node.body:
                    self.assertTrue(isinstance(row, ast.FunctionDef) or row.value in docstrings(tree), name)
                held = [row.name for row in node.body if isinstance(row, ast.FunctionDef)]
                self.assertEqual(len(held), len(set(held)), name)

    def test_methods_with_underscores(self):
        for name, tree in trees():
            for function in functions(tree):
                if not function.name.startswith("__"):
                    continue
                self.assertIn(function.name, DUNDERS, name)
                self.assertIsInstance(parents(tree)[function], ast.ClassDef, name)
                returns = [node for node in ast.walk(function) if isinstance(node, ast.Return)]
                if function.name == "__init__":
                    self.assertEqual(returns, [], name)
                if function.name == "__len__":
                    self.assertTrue(all(called(node.value) == "len" for node in returns), name)
                if function.name in ("__eq__", "__len__", "__contains__"):
                    stored = [node for node in ast.walk(function) if isinstance(getattr(node, "ctx", None), ast.Store)]
                    self.assertEqual(stored, [], name)

    def test_classes_are_called_raised_or_asked_for(self):
        every = {node.name for _, tree in trees() for node in tree.body if isinstance(node, ast.ClassDef)}
        for name, tree in trees():
            above = parents(tree)
            for node in ast.walk(tree):
                if isinstance(node, ast.Name) and node.id in every:
                    over = above[node]
                    base = isinstance(over, (ast.ClassDef, ast.ExceptHandler))
                    asked = called(over) == "isinstance" and over.args[1] is node
                    self.assertTrue(base or asked or isinstance(over, ast.Call) and over.func is node, (name, node.id))

    def test_attributes_are_assigned_through_local_names(self):
        for name, tree in trees():
            for function in functions(tree):
                for node in ast.walk(function):
                    if isinstance(node, ast.Attribute) and isinstance(node.ctx, ast.Store):
                        self.assertIsInstance(node.value, ast.Name, name)
                        self.assertIn(node.value.id, bound_names(function), name)

    def test_no_name_is_that_of_a_method_and_of_a_value_there(self):
        for name, tree in trees():
            for node in ast.walk(tree):
                if not isinstance(node, ast.ClassDef):
                    continue
                held = {row.name for row in node.body if isinstance(row, ast.FunctionDef)}
                own = {row.attr for row in ast.walk(node) if isinstance(row, ast.Attribute) and isinstance(row.ctx, ast.Store)}
                self.assertFalse(held & own, (name, node.name))


class TestBlocks(unittest.TestCase):
    """L6 With, and L19 of what is caught."""

    def test_caught_errors_are_own_ones(self):
        errors = set(module_names(ast.parse(source("errors.py"))))
        for name, tree in trees():
            for node in ast.walk(tree):
                if isinstance(node, ast.Try):
                    self.assertEqual((node.finalbody, len(node.handlers)), ([], 1), name)
                    self.assertIn(node.handlers[0].type.id, errors, name)

    def test_blocks_are_those_of_own_objects(self):
        for name, tree in trees():
            entered = [function for function in functions(tree) if function.name in ("__enter__", "__exit__")]
            for node in ast.walk(tree):
                if isinstance(node, ast.With):
                    self.assertEqual((len(node.items), len(entered)), (1, 2), name)
                    self.assertIsInstance(node.items[0].context_expr, ast.Call, name)
                    self.assertIsInstance(node.items[0].optional_vars, ast.Name, name)

    def test_what_stands_in_exits(self):
        for name, tree in trees():
            for function in functions(tree):
                if function.name == "__exit__":
                    self.assertEqual(parameters(function), ["self", "kind", "value", "trace"], name)
                    self.check_rows(name, function.body)
                    read = [node.id for node in ast.walk(function) if isinstance(node, ast.Name)]
                    self.assertFalse({"value", "trace"} & set(read), name)

    def check_rows(self, name, rows):
        for row in rows:
            if isinstance(row, ast.If):
                kinds = (ast.BoolOp, ast.Compare, ast.Name, ast.Attribute, ast.Constant, ast.boolop, ast.Is, ast.IsNot, ast.Load)
                self.assertTrue(all(isinstance(node, kinds) for node in ast.walk(row.test)), name)
                # Beside classes with __eq__ or __len__ nothing is tested alone, but for being None.
                tests = row.test.values if isinstance(row.test, ast.BoolOp) else [row.test]
                self.assertTrue(all(isinstance(node, ast.Compare) for node in tests), name)
                self.check_rows(name, row.body + row.orelse)
            else:
                self.assertIsInstance(row, ast.Assign, name)
                self.assertIsInstance(row.value, (ast.Attribute, ast.Name), name)


class TestCode(unittest.TestCase):
    def test_statements(self):
        for name, tree in trees():
            for node in ast.walk(tree):
                if isinstance(node, ast.stmt):
                    self.assertIsInstance(node, STATEMENTS, (name, node.lineno))
                self.assertNotIsInstance(node, BARRED_NODES, (name, getattr(node, "lineno", 0)))
            for function in functions(tree):
                self.assertEqual(function.decorator_list, [], name)
                kinds = function.args
                self.assertIsNone(kinds.vararg or kinds.kwarg or function.returns, name)
                self.assertFalse(any(arg.annotation for arg in kinds.args + kinds.kwonlyargs), name)
                self.assertNotIsInstance(parents(tree)[function], ast.FunctionDef, name)

    def test_calls(self):
        for name, tree in trees():
            own = set(module_names(tree))
            for node in ast.walk(tree):
                if not isinstance(node, ast.Call):
                    continue
                self.assertIsInstance(node.func, (ast.Name, ast.Attribute), name)
                word = called(node)
                if word is not None and hasattr(builtins, word):
                    self.assertIn(word, CALLED, name)
                    self.assertLessEqual({key.arg for key in node.keywords}, {"start"}, (name, word))
                elif word is not None and word not in own:
                    over = [function for function in functions(tree) if node in ast.walk(function)]
                    self.assertTrue(any(word in parameters(function) for function in over), (name, word))

    def test_methods_of_builtins(self):
        own = {function.name for _, tree in trees() for function in functions(tree)}
        for name, tree in trees():
            for node in ast.walk(tree):
                if isinstance(node, ast.Call) and isinstance(node.func, ast.Attribute):
                    self.assertIn(node.func.attr, METHODS + sorted(own), name)
                    self.assertTrue(node.func.attr in own or not node.keywords, name)
                    self.assertNotEqual(node.func.attr, "sort", name)

    def test_builtins_are_called_not_kept(self):
        for name, tree in trees():
            above = parents(tree)
            for node in ast.walk(tree):
                if isinstance(node, ast.Name) and node.id in dir(builtins) and node.id != "_":
                    over = above[node]
                    kept = isinstance(over, ast.Call) and over.func is node
                    asked = called(over) == "isinstance" or isinstance(over, ast.ClassDef)
                    self.assertTrue(kept or asked, (name, node.id))

    def test_iterated_at_once(self):
        for name, tree in trees():
            above = parents(tree)
            for node in ast.walk(tree):
                if called(node) not in AT_ONCE:
                    continue
                over = above[node]
                looped = isinstance(over, (ast.For, ast.comprehension)) and over.iter is node
                taken = called(over) in ("list", "tuple", "dict", "sorted", "sum", "enumerate", "zip")
                kept = isinstance(over, ast.Assign) and called(node) == "range"
                self.assertTrue(looped or taken or kept, (name, node.lineno))

    def test_what_loops_go_over_is_not_changed(self):
        for name, tree in trees():
            for loop in ast.walk(tree):
                if not isinstance(loop, ast.For) or called(loop.iter) == "list":
                    continue
                gone_over = {ast.dump(node) for node in ast.walk(loop.iter) if isinstance(node, (ast.Name, ast.Attribute))}
                for node in ast.walk(loop):
                    if isinstance(node, ast.Call) and isinstance(node.func, ast.Attribute):
                        if node.func.attr in ("append", "extend", "insert", "pop", "remove", "clear", "update"):
                            self.assertNotIn(ast.dump(node.func.value), gone_over, (name, loop.lineno))
                    if isinstance(node, ast.Subscript) and isinstance(node.ctx, ast.Store):
                        self.assertNotIn(ast.dump(node.value).replace("Store", "Load"), gone_over, (name, loop.lineno))

    def test_sets(self):
        for name, tree in trees():
            above = parents(tree)
            for node in ast.walk(tree):
                if called(node) == "set" or isinstance(node, ast.SetComp):
                    over = above[node]
                    self.assertTrue(called(over) in ("len", "sorted") or isinstance(over, ast.Compare), (name, node.lineno))

    def test_identity(self):
        for name, tree in trees():
            for node in ast.walk(tree):
                if isinstance(node, ast.Compare) and any(isinstance(sign, (ast.Is, ast.IsNot)) for sign in node.ops):
                    self.assertIsInstance(node.comparators[0], ast.Constant, name)
                    self.assertTrue(node.comparators[0].value in (None, True, False), name)

    def test_raises(self):
        errors = set(module_names(ast.parse(source("errors.py"))))
        for name, tree in trees():
            for node in ast.walk(tree):
                if isinstance(node, ast.Raise):
                    self.assertIsNone(node.cause, name)
                    self.assertIn(called(node.exc), errors, (name, node.lineno))
                    self.assertEqual((len(node.exc.args), node.exc.keywords), (1, []), (name, node.lineno))

    def test_strings_and_numbers(self):
        for name, text in sources():
            tree = ast.parse(text)
            for node in ast.walk(tree):
                if not isinstance(node, ast.Constant) or node in docstrings(tree):
                    continue
                self.assertIsInstance(node.value, (int, str, type(None)), (name, node.lineno))
                if isinstance(node.value, str):
                    self.assertNotIn("%", node.value, name)
                    self.assertFalse(node.value.startswith("__") or node.value.endswith(("._", "__")), name)
            for escape in re.findall(r"\\(.)", text):
                self.assertIn(escape, "nt\\'\"", name)

    def test_comprehensions_use_names_of_their_own(self):
        for name, tree in trees():
            for function in functions(tree):
                for outer in ast.walk(function):
                    if not isinstance(outer, (ast.ListComp, ast.DictComp, ast.SetComp)):
                        continue
                    taken = self.variables(outer)
                    for inner in ast.walk(outer):
                        if inner is not outer and isinstance(inner, (ast.ListComp, ast.DictComp, ast.SetComp)):
                            self.assertFalse(self.variables(inner) & taken, (name, function.name))

    def variables(self, node):
        return {row.id for part in node.generators for row in ast.walk(part.target) if isinstance(row, ast.Name)} - {"_"}

    def test_no_default_that_can_change(self):
        for name, tree in trees():
            for function in functions(tree):
                for value in function.args.defaults + [held for held in function.args.kw_defaults if held]:
                    self.assertIsInstance(ast.literal_eval(value), (int, str, tuple, type(None)), name)

    def test_docstrings(self):
        for name, tree in trees():
            self.assertTrue(ast.get_docstring(tree), name)
            for node in tree.body:
                if isinstance(node, ast.ClassDef):
                    self.assertTrue(ast.get_docstring(node), (name, node.name))


if __name__ == "__main__":
    unittest.main()
