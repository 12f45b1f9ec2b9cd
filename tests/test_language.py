"""The package keeps to its subset of Python: the rules that can be read off the syntax tree."""

import ast
import builtins
import tokenize
import unittest
import warnings
from pathlib import Path

PACKAGE = Path(__file__).resolve().parent.parent / "easelwork"
LIBRARY = {"math": {"gcd", "lcm", "isqrt", "comb", "perm", "factorial"}, "heapq": {"heappush", "heappop"}}
CALLED_BUILTINS = set(
    "len range enumerate zip min max sum abs sorted reversed int str bool list tuple dict set isinstance ord repr"
    " any all divmod iter ValueError".split())
METHODS = set(
    "append clear copy count endswith extend find get index insert isalnum isalpha isdigit islower isspace isupper"
    " items join keys ljust lower lstrip partition pop remove replace reverse rfind rjust rpartition rsplit rstrip"
    " setdefault split splitlines startswith strip update upper values zfill bit_length".split())
# Python's own tools give the underscore a value at times.
BUILTINS = set(dir(builtins)) - {"_"}
BUILTIN_VALUES = ("", 0, [], {}, set(), b"")
DUNDERS = set(
    "__init__ __eq__ __repr__ __str__ __len__ __call__ __iter__ __add__ __sub__ __mul__ __and__ __or__ __bool__"
    " __contains__".split())
BARRED_NAMES = set("register mro elements open input law version_info with_traceback add_note".split())
BARRED_WORDS = set(
    "type typing typing_extensions enum Enum IntEnum StrEnum Flag IntFlag Generic Protocol ABC ABCMeta namedtuple"
    " NamedTuple TypedDict TYPE_CHECKING abstractmethod".split())
# Attributes may have these names, everything else may not.
BARRED_BUT_FOR_ATTRIBUTES = set(
    "attrgetter breakpoint builtins compile copyright credits delattr dir eval exec exit gc getattr globals hasattr help"
    " id importlib license locals methodcaller os quit setattr super type vars sys".split())
STATEMENTS = (
    ast.Assign, ast.AugAssign, ast.If, ast.While, ast.For, ast.Return, ast.Break, ast.Continue, ast.Pass, ast.Raise,
    ast.Assert, ast.Delete, ast.Try, ast.Expr, ast.FunctionDef, ast.ClassDef, ast.ImportFrom,
)
COMPREHENSIONS = (ast.ListComp, ast.DictComp, ast.SetComp)


def files():
    return sorted(PACKAGE.glob("*.py"))


def tree_of(path):
    return ast.parse(path.read_text(encoding="utf-8"))


def nodes(kind):
    """All nodes of a kind in the package, each with the name of its file."""
    for path in files():
        for node in ast.walk(tree_of(path)):
            if isinstance(node, kind):
                yield path.name, node


def defined(tree):
    """The names that a file binds at module level, without its imports."""
    out = []
    for statement in tree.body:
        if isinstance(statement, (ast.FunctionDef, ast.ClassDef)):
            out.append(statement.name)
        elif isinstance(statement, ast.Assign):
            out.extend(target.id for target in statement.targets)
    return out


def inner_names(function):
    """The parameters, targets and nested names of a function."""
    arguments = function.args
    names = [held.arg for held in arguments.posonlyargs + arguments.args + arguments.kwonlyargs]
    names += [held.arg for held in (arguments.vararg, arguments.kwarg) if held]
    names += [node.id for node in ast.walk(function)
              if isinstance(node, ast.Name) and isinstance(node.ctx, ast.Store)]
    return names


class FilesTest(unittest.TestCase):
    def test_the_folder_holds_plain_files_alone(self):
        for path in PACKAGE.iterdir():
            if path.name != "__pycache__":
                self.assertTrue(path.is_file() and path.suffix == ".py", path)
                self.assertRegex(path.stem, r"^([a-z][a-z0-9_]*|__init__)$")
                self.assertNotIn(path.stem, BUILTINS)

    def test_the_package_itself_holds_a_docstring_alone(self):
        tree = tree_of(PACKAGE / "__init__.py")
        self.assertEqual(len(tree.body), 1)
        self.assertTrue(ast.get_docstring(tree))

    def test_sizes_and_characters(self):
        for path in files():
            text = path.read_text(encoding="utf-8")
            rows = text.split("\n")
            self.assertLessEqual(len(rows), 400, path)
            self.assertLessEqual(max(map(len, rows)), 120, path)
            self.assertTrue(all(sign == "\n" or " " <= sign <= "~" for sign in text), path)
        for name, node in nodes(ast.FunctionDef):
            self.assertLessEqual(node.end_lineno - node.lineno + 1, 40, (name, node.name))

    def test_python_gives_no_warning(self):
        with warnings.catch_warnings():
            warnings.simplefilter("error")
            for path in files():
                compile(path.read_text(encoding="utf-8"), str(path), "exec")


class ModuleTest(unittest.TestCase):
    def test_statements_at_module_level(self):
        for path in files():
            body = tree_of(path).body
            for at, statement in enumerate(body):
                if at == 0:
                    self.assertIsInstance(ast.literal_eval(statement.value), str)
                elif isinstance(statement, ast.Assign):
                    self.assertEqual(len(statement.targets), 1)
                    self.assertIsInstance(statement.targets[0], ast.Name)
                    calls = [node for node in ast.walk(statement) if isinstance(node, (ast.Call, ast.Lambda))]
                    self.assertEqual(calls + [n for n in ast.walk(statement) if isinstance(n, COMPREHENSIONS)], [])
                else:
                    self.assertIsInstance(statement, (ast.ImportFrom, ast.FunctionDef, ast.ClassDef))

    def test_imports_name_the_file_that_defines(self):
        for name, node in nodes((ast.Import, ast.ImportFrom)):
            self.assertIsInstance(node, ast.ImportFrom, name)
            self.assertEqual(node.level, 0)
            words = [part.name for part in node.names]
            self.assertTrue(all(part.asname is None for part in node.names))
            if node.module in LIBRARY:
                self.assertLessEqual(set(words), LIBRARY[node.module])
            else:
                package, _, file = node.module.partition(".")
                self.assertEqual(package, "easelwork")
                self.assertLessEqual(set(words), set(defined(tree_of(PACKAGE / (file + ".py")))))

    def test_what_is_imported_is_used(self):
        for path in files():
            tree = tree_of(path)
            used = {node.id for node in ast.walk(tree) if isinstance(node, ast.Name)}
            imported = {part.name for node in tree.body if isinstance(node, ast.ImportFrom) for part in node.names}
            self.assertEqual(imported - used, set(), path.name)

    def test_no_two_files_import_from_each_other(self):
        below = {}
        for name, node in nodes(ast.ImportFrom):
            below.setdefault(name[:-3], []).append(node.module.partition(".")[2])

        def climb(name, path):
            self.assertNotIn(name, path)
            for other in below.get(name, ()):
                climb(other, path + (name,))
        for name in below:
            climb(name, ())

    def test_each_name_is_bound_once(self):
        for path in files():
            tree = tree_of(path)
            imported = [part.name for node in tree.body if isinstance(node, ast.ImportFrom) for part in node.names]
            names = defined(tree) + imported
            self.assertEqual(len(names), len(set(names)), path)

    def test_names_inside_functions_hide_nothing(self):
        for path in files():
            tree = tree_of(path)
            taken = {part.name for node in tree.body if isinstance(node, ast.ImportFrom) for part in node.names}
            taken |= {node.name for node in tree.body if isinstance(node, ast.ClassDef)}
            taken |= BUILTINS
            for node in ast.walk(tree):
                if isinstance(node, ast.FunctionDef):
                    self.assertEqual(taken & set(inner_names(node)), set(), (path.name, node.name))
            self.assertEqual(set(defined(tree)) & BUILTINS, set())


    def test_tables_are_only_read(self):
        tables = set()
        for path in files():
            for statement in tree_of(path).body:
                if isinstance(statement, ast.Assign) and isinstance(statement.value, (ast.Dict, ast.List)):
                    tables.add((path.stem, statement.targets[0].id))
                    inner = [part for part in ast.walk(statement.value) if part is not statement.value]
                    self.assertFalse([part for part in inner if isinstance(part, (ast.Dict, ast.List))], path.name)
        self.assertIn(("forms", "FORMS"), tables)
        for path in files():
            tree = tree_of(path)
            seen = {word for stem, word in tables if stem == path.stem}
            for node in tree.body:
                if isinstance(node, ast.ImportFrom):
                    stem = node.module.partition(".")[2]
                    seen |= {part.name for part in node.names if (stem, part.name) in tables}
            read = set()
            for node in ast.walk(tree):
                if isinstance(node, ast.Subscript) and isinstance(node.ctx, ast.Load):
                    read.add(node.value)
                if isinstance(node, ast.Compare):
                    read.update(node.comparators)
                if isinstance(node, ast.Call) and isinstance(node.func, ast.Attribute) and node.func.attr == "get":
                    read.add(node.func.value)
            for node in ast.walk(tree):
                if isinstance(node, ast.Name) and node.id in seen and isinstance(node.ctx, ast.Load):
                    self.assertIn(node, read, (path.name, node.lineno, node.id))


class SyntaxTest(unittest.TestCase):
    def test_statements(self):
        for name, node in nodes(ast.stmt):
            self.assertIsInstance(node, STATEMENTS, (name, node.lineno))

    def test_expressions_that_are_left_out(self):
        barred = (ast.GeneratorExp, ast.Await, ast.NamedExpr, ast.MatMult, ast.Div)
        for name, node in nodes(barred):
            self.fail((name, ast.dump(node)))
        for name, node in nodes(ast.Constant):
            self.assertNotIsInstance(node.value, (float, complex, bytes), (name, node.lineno))

    def test_stars_stand_before_names(self):
        for name, node in nodes(ast.Call):
            for part in node.args:
                if isinstance(part, ast.Starred):
                    self.assertIsInstance(part.value, ast.Name, (name, node.lineno))
            self.assertTrue(all(part.arg for part in node.keywords), (name, node.lineno))

    def test_underscores_are_never_read(self):
        for name, node in nodes(ast.Name):
            if node.id == "_":
                self.assertIsInstance(node.ctx, ast.Store, (name, node.lineno))

    def test_functions_from_tables_are_given_names_first(self):
        for name, node in nodes(ast.Call):
            self.assertIsInstance(node.func, (ast.Name, ast.Attribute), (name, node.lineno))

    def test_decorators_and_double_underscores(self):
        for name, node in nodes(ast.FunctionDef):
            words = [ast.unparse(part) for part in node.decorator_list]
            allowed = ([], ["classmethod"], ["staticmethod"], ["property"], [node.name + ".setter"])
            self.assertIn(words, allowed, (name, node.name))
            if node.name.startswith("__"):
                self.assertIn(node.name, DUNDERS, name)
        for name, node in nodes(ast.ClassDef):
            self.assertEqual(node.decorator_list, [], name)

    def test_is_stands_beside_none_true_and_false(self):
        for name, node in nodes(ast.Compare):
            for sign, right in zip(node.ops, node.comparators):
                if isinstance(sign, (ast.Is, ast.IsNot)):
                    self.assertIsInstance(right, ast.Constant, (name, node.lineno))
                    self.assertTrue(right.value is None or isinstance(right.value, bool))

    def test_sets_stand_in_sorted_alone(self):
        inside = set()
        for path in files():
            tree = tree_of(path)
            for node in ast.walk(tree):
                if isinstance(node, ast.Call) and isinstance(node.func, ast.Name) and node.func.id == "sorted":
                    inside.add((path.name, node.args[0].lineno, node.args[0].col_offset))
            for node in ast.walk(tree):
                if isinstance(node, (ast.Set, ast.SetComp)):
                    self.assertIn((path.name, node.lineno, node.col_offset), inside)

    def test_exponents_are_small_literals(self):
        for name, node in nodes(ast.BinOp):
            if isinstance(node.op, ast.Pow):
                self.assertIsInstance(node.right, ast.Constant, (name, node.lineno))
                self.assertTrue(0 <= node.right.value <= 64)

    def test_no_function_changes_an_item_of_its_arguments(self):
        for name, node in nodes(ast.FunctionDef):
            names = {held.arg for held in node.args.args}
            for part in ast.walk(node):
                if isinstance(part, ast.Subscript) and isinstance(part.ctx, ast.Store):
                    if isinstance(part.value, ast.Name):
                        self.assertNotIn(part.value.id, names, (name, node.name))


class NameTest(unittest.TestCase):
    def test_words_that_are_not_used(self):
        for path in files():
            tree = tree_of(path)
            names = {node.id for node in ast.walk(tree) if isinstance(node, ast.Name)}
            names |= {node.attr for node in ast.walk(tree) if isinstance(node, ast.Attribute)}
            names |= {node.arg for node in ast.walk(tree) if isinstance(node, (ast.arg, ast.keyword))}
            names |= {node.name for node in ast.walk(tree) if isinstance(node, (ast.FunctionDef, ast.ClassDef))}
            self.assertEqual(names & (BARRED_NAMES | BARRED_WORDS), set(), path.name)
            named = {node.id for node in ast.walk(tree) if isinstance(node, ast.Name)}
            named |= {node.arg for node in ast.walk(tree) if isinstance(node, ast.arg)}
            named |= {node.name for node in ast.walk(tree) if isinstance(node, (ast.FunctionDef, ast.ClassDef))}
            self.assertEqual(named & BARRED_BUT_FOR_ATTRIBUTES, set(), path.name)
            for word in names:
                self.assertNotRegex(word or "", r"^_(wall|pe_|dcw_|enum_|cm_|twin_re_|lay_|law_|stub_|sre)")

    def test_builtins_that_are_called(self):
        for path in files():
            tree = tree_of(path)
            for node in ast.walk(tree):
                if isinstance(node, ast.Name) and node.id in BUILTINS:
                    allowed = CALLED_BUILTINS | {"classmethod", "staticmethod", "property"}
                    self.assertIn(node.id, allowed, (path.name, node.lineno))

    def test_methods_are_own_ones_or_plain_ones(self):
        own = {node.name for _, node in nodes(ast.FunctionDef)}
        for name, node in nodes(ast.Call):
            if isinstance(node.func, ast.Attribute):
                self.assertIn(node.func.attr, METHODS | own, (name, node.lineno))

    def test_own_methods_and_attributes_do_not_collide(self):
        taken = {word for value in BUILTIN_VALUES for word in dir(value)} - {"count", "index", "title", "copy"}
        methods, attributes = set(), set()
        for _, node in nodes(ast.ClassDef):
            methods |= {part.name for part in node.body if isinstance(part, ast.FunctionDef)}
        # A property that has a setter may be assigned.
        settable = {node.name for _, node in nodes(ast.FunctionDef)
                    if [ast.unparse(part) for part in node.decorator_list] == [node.name + ".setter"]}
        for _, node in nodes(ast.Attribute):
            if isinstance(node.ctx, ast.Store) and node.attr not in settable:
                attributes.add(node.attr)
        plain = {word for word in methods if not word.startswith("__")}
        self.assertEqual(methods & attributes, set())
        self.assertEqual((plain | attributes) & taken, set())

    def test_properties_class_methods_and_plain_methods_have_different_names(self):
        held = {"property": set(), "classmethod": set(), "staticmethod": set(), "plain": set()}
        attributes = {node.attr for _, node in nodes(ast.Attribute) if isinstance(node.ctx, ast.Store)}
        settable = set()
        for _, node in nodes(ast.ClassDef):
            for part in node.body:
                if isinstance(part, ast.FunctionDef):
                    words = [ast.unparse(word) for word in part.decorator_list]
                    if words == [part.name + ".setter"]:
                        settable.add(part.name)
                    else:
                        held[words[0] if words else "plain"].add(part.name)
        kinds = list(held)
        for at, kind in enumerate(kinds):
            for other in kinds[at + 1:]:
                self.assertEqual(held[kind] & held[other], set())
        self.assertEqual(held["classmethod"] & attributes | held["staticmethod"] & attributes, set())
        self.assertEqual(held["property"] & attributes, settable)

    def test_what_a_property_and_the_length_of_an_object_do(self):
        for name, node in nodes(ast.FunctionDef):
            words = [ast.unparse(word) for word in node.decorator_list]
            if words == ["property"] or node.name in ("__len__", "__iter__"):
                rows = [row for row in node.body if not ast.get_docstring(node) or row is not node.body[0]]
                self.assertEqual([type(row) for row in rows], [ast.Return], (name, node.name))
                calls = [part for part in ast.walk(rows[0]) if isinstance(part, ast.Call)]
                self.assertTrue(words == [] or calls == [], (name, node.name))
                if node.name == "__len__":
                    self.assertEqual(calls[0].func.id, "len")
                if node.name == "__iter__":
                    self.assertEqual(calls[0].func.id, "iter")
        for name, node in nodes(ast.Call):
            if isinstance(node.func, ast.Name) and node.func.id == "iter":
                self.assertIn(name, ("history.py", "kept.py"))

    def test_stars_in_calls_and_dicts(self):
        for name, node in nodes(ast.Dict):
            for key, value in zip(node.keys, node.values):
                self.assertTrue(key is not None or isinstance(value, ast.Name), (name, node.lineno))

    def test_a_generator_is_iterated_at_once(self):
        generators = {node.name for _, node in nodes(ast.FunctionDef)
                      if any(isinstance(part, (ast.Yield, ast.YieldFrom)) for part in ast.walk(node))}
        self.assertEqual(generators, {"places", "walk"})
        for path in files():
            tree = tree_of(path)
            good = set()
            for node in ast.walk(tree):
                if isinstance(node, (ast.For, ast.comprehension)):
                    good.add(node.iter)
                if isinstance(node, ast.YieldFrom):
                    good.add(node.value)
                if isinstance(node, ast.Call) and isinstance(node.func, ast.Name) and node.func.id in ("list", "tuple"):
                    good.update(node.args)
            for node in ast.walk(tree):
                if isinstance(node, ast.Call):
                    word = getattr(node.func, "id", getattr(node.func, "attr", None))
                    if word in generators:
                        self.assertIn(node, good, (path.name, node.lineno))

    def test_a_generator_has_its_name_alone(self):
        every = [node.name for _, node in nodes(ast.FunctionDef)]
        for name, node in nodes(ast.FunctionDef):
            if any(isinstance(part, (ast.Yield, ast.YieldFrom)) for part in ast.walk(node)):
                self.assertEqual(every.count(node.name), 1, (name, node.name))

    def test_any_all_and_the_like_take_lists(self):
        for name, node in nodes(ast.Call):
            if isinstance(node.func, ast.Name) and node.func.id in ("any", "all", "sum", "sorted", "min", "max"):
                for part in node.args:
                    self.assertNotIsInstance(part, ast.GeneratorExp, (name, node.lineno))

    def test_strings_hold_no_percent_sign_and_plain_escapes_alone(self):
        for path in files():
            with open(path, "rb") as source:
                for token in tokenize.tokenize(source.readline):
                    if token.string[:1] in "\"'" and token.string:
                        self.assertNotIn("%", token.string, path.name)
                        rest = token.string.replace("\\\\", "").replace("\\n", "")
                        rest = rest.replace("\\t", "").replace("\\\"", "").replace("\\'", "")
                        self.assertNotIn("\\", rest, path.name)


if __name__ == "__main__":
    unittest.main()
