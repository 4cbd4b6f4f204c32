"""Holds the package's files against LANGUAGE.md, as far as single files and names show it."""

import ast
import builtins
import keyword
import pathlib
import re
import unittest

PACKAGE = pathlib.Path(__file__).resolve().parent.parent / "oftenlots"

ERRORS = set("""Exception ValueError TypeError KeyError IndexError LookupError ZeroDivisionError ArithmeticError
OverflowError RuntimeError NotImplementedError AttributeError StopIteration""".split())
OWN_NAMES = set("""len range enumerate zip min max sum abs sorted reversed int str bool list tuple dict set frozenset
isinstance ord repr any all divmod""".split()) | ERRORS
METHODS = set("""append clear copy count endswith extend find get index insert isalnum isalpha isdigit islower isspace
isupper items join keys ljust lower lstrip partition pop remove replace reverse rfind rjust rpartition rsplit rstrip
setdefault split splitlines startswith strip update upper values zfill bit_length""".split())
DUNDERS = {"__init__", "__eq__", "__repr__", "__str__", "__len__"}
NOT_USED = set("""register mro elements open input version_info with_traceback add_note attrgetter breakpoint builtins
compile copyright credits delattr dir eval exec exit gc getattr globals hasattr help id importlib license locals
methodcaller os quit setattr super type vars sys format format_map""".split())
NO_WORDS = set("""type typing typing_extensions enum Enum IntEnum StrEnum Flag IntFlag Generic Protocol ABC ABCMeta
namedtuple NamedTuple TypedDict TYPE_CHECKING abstractmethod""".split())
NO_PIECES = ("dataclass", "overload", "contextmanager")
STATEMENTS = (ast.Assign, ast.AugAssign, ast.If, ast.While, ast.For, ast.Return, ast.Break, ast.Continue, ast.Pass,
              ast.Raise, ast.Try, ast.Expr, ast.FunctionDef, ast.ClassDef, ast.ImportFrom)
EXPRESSIONS = (ast.Constant, ast.List, ast.Tuple, ast.Dict, ast.Set, ast.BinOp, ast.UnaryOp, ast.BoolOp, ast.Compare,
               ast.IfExp, ast.Call, ast.Attribute, ast.Subscript, ast.Slice, ast.ListComp, ast.JoinedStr,
               ast.FormattedValue, ast.Name, ast.Lambda)
CHANGES = ("append", "clear", "extend", "insert", "pop", "remove", "reverse", "setdefault", "update")
WALKED = ("zip", "enumerate", "reversed", "range")
KEYWORDS = {"sorted": {"key", "reverse"}, "min": {"key", "default"}, "max": {"key", "default"}, "sum": {"start"},
            "enumerate": {"start"}, "zip": {"strict"}}
WALKERS = ("list", "tuple", "dict", "sorted", "sum", "any", "all", "enumerate", "zip", "min", "max")


def files():
    return sorted(PACKAGE.glob("*.py"))


def trees():
    return [(path.name, ast.parse(path.read_text())) for path in files()]


def nodes(*kinds):
    for name, tree in trees():
        for node in ast.walk(tree):
            if isinstance(node, kinds):
                yield f"{name}:{getattr(node, 'lineno', '?')}", node


def bound_names(tree):
    for node in ast.walk(tree):
        if isinstance(node, (ast.FunctionDef, ast.ClassDef)):
            yield node.name
        if isinstance(node, ast.arg):
            yield node.arg
        if isinstance(node, ast.Name) and isinstance(node.ctx, ast.Store):
            yield node.id


class Files(unittest.TestCase):
    def test_the_folder_holds_plain_python_files_alone(self):
        for path in PACKAGE.iterdir():
            if path.name == "__pycache__":
                continue
            self.assertRegex(path.name, r"\A([a-z][a-z0-9_]*|__init__|__main__)\.py\Z")
            self.assertNotIn(path.stem, set(dir(builtins)) | NO_WORDS | {"test", "tests", "testing", "site"})
            self.assertFalse(path.stem.startswith("test_"))
        self.assertTrue((PACKAGE / "__init__.py").exists())

    def test_signs_and_sizes(self):
        for path in files():
            text = path.read_bytes().decode("ascii")
            self.assertRegex(text, r"\A[ -~\n]*\Z")
            rows = text.split("\n")
            self.assertLessEqual(len(rows), 400)
            self.assertLessEqual(max(map(len, rows)), 120)

    def test_words_that_stand_nowhere(self):
        for path in files():
            words = re.findall(r"[A-Za-z_0-9]+", path.read_text())
            self.assertEqual([word for word in words if word in NO_WORDS], [])
            self.assertEqual([word for word in words if any(piece in word for piece in NO_PIECES)], [])


class Forms(unittest.TestCase):
    def test_statements_and_expressions(self):
        for where, node in nodes(ast.stmt):
            self.assertIsInstance(node, STATEMENTS, where)
            if isinstance(node, (ast.For, ast.While)):
                self.assertEqual(node.orelse, [], where)
            if isinstance(node, ast.Assign):
                self.assertEqual(len(node.targets), 1, where)
            if isinstance(node, ast.Try):
                self.assertEqual(node.finalbody, [], where)
        for where, node in nodes(ast.expr):
            self.assertIsInstance(node, EXPRESSIONS, where)
        for where, node in nodes(ast.Div, ast.MatMult, ast.Starred):
            self.fail(where)

    def test_a_text_by_itself_stands_only_at_a_files_top(self):
        for name, tree in trees():
            self.assertIsNotNone(ast.get_docstring(tree), name)
            allowed = tree.body[0]
            for node in ast.walk(tree):
                if isinstance(node, ast.Expr) and node is not allowed:
                    self.assertIsInstance(node.value, ast.Call, f"{name}:{node.lineno}")

    def test_comprehensions(self):
        for where, node in nodes(ast.ListComp):
            self.assertEqual(len(node.generators), 1, where)
            self.assertLessEqual(len(node.generators[0].ifs), 1, where)

    def test_functions(self):
        for where, node in nodes(ast.FunctionDef):
            self.assertLessEqual(node.end_lineno - node.lineno + 1, 40, where)
            self.assertEqual(node.decorator_list, [], where)
            handed = node.args
            self.assertEqual((handed.vararg, handed.kwarg, handed.kwonlyargs, handed.posonlyargs), (None, None, [], []))

    def test_classes(self):
        for where, node in nodes(ast.ClassDef):
            self.assertEqual(node.decorator_list, [], where)
            self.assertEqual(node.keywords, [], where)
            self.assertLessEqual(len(node.bases), 1, where)
            for part in node.body:
                self.assertIsInstance(part, (ast.FunctionDef, ast.Pass), where)

    def test_tops(self):
        for name, tree in trees():
            for node in tree.body[1:]:
                self.assertIsInstance(node, (ast.ImportFrom, ast.FunctionDef, ast.ClassDef, ast.Assign), name)

    def test_imports(self):
        drawn = {}
        for name, tree in trees():
            drawn[name[:-3]] = []
            for node in ast.walk(tree):
                if not isinstance(node, ast.ImportFrom):
                    continue
                self.assertIn(node, tree.body, name)
                self.assertEqual(node.level, 0, name)
                self.assertRegex(node.module, r"\Aoftenlots\.[a-z0-9_]+\Z")
                source = ast.parse((PACKAGE / (node.module.split(".")[1] + ".py")).read_text())
                defined = {part.name for part in source.body if isinstance(part, (ast.FunctionDef, ast.ClassDef))}
                defined |= {part.targets[0].id for part in source.body if isinstance(part, ast.Assign)}
                for alias in node.names:
                    self.assertIn(alias.name, defined, name)
                drawn[name[:-3]].append(node.module.split(".")[1])
        for start in drawn:
            reached = list(drawn[start])
            for step in reached:
                reached.extend(other for other in drawn[step] if other not in reached)
            self.assertNotIn(start, reached)


class Names(unittest.TestCase):
    def test_bound_names_are_plain_and_their_own(self):
        for name, tree in trees():
            imported = {alias.asname or alias.name for node in tree.body if isinstance(node, ast.ImportFrom)
                        for alias in node.names}
            classes = {node.name for node in tree.body if isinstance(node, ast.ClassDef)}
            for bound in bound_names(tree):
                if bound in DUNDERS:
                    continue
                self.assertRegex(bound, r"\A[A-Za-z][A-Za-z0-9_]*\Z", name)
                self.assertNotIn(bound, NOT_USED, name)
                self.assertFalse(keyword.issoftkeyword(bound), name)
                self.assertNotIn(bound, imported, name)
            for node in ast.walk(tree):
                if isinstance(node, ast.arg):
                    self.assertNotIn(node.arg, classes | set(dir(builtins)), name)
                if isinstance(node, ast.Name) and isinstance(node.ctx, ast.Store):
                    self.assertNotIn(node.id, classes | set(dir(builtins)), name)

    def test_names_of_the_top_are_bound_once(self):
        for name, tree in trees():
            tops = [node.name for node in tree.body if isinstance(node, (ast.FunctionDef, ast.ClassDef))]
            tops += [node.targets[0].id for node in tree.body if isinstance(node, ast.Assign)]
            self.assertEqual(len(tops), len(set(tops)), name)

    def test_read_names_are_own_or_listed(self):
        for name, tree in trees():
            known = set(bound_names(tree)) | OWN_NAMES
            known |= {alias.asname or alias.name for node in tree.body if isinstance(node, ast.ImportFrom)
                      for alias in node.names}
            for node in ast.walk(tree):
                if isinstance(node, ast.Name):
                    self.assertIn(node.id, known, f"{name}:{node.lineno}")

    def test_methods(self):
        own = {node.name for where, node in nodes(ast.FunctionDef)}
        for where, node in nodes(ast.Call):
            if isinstance(node.func, ast.Attribute):
                self.assertIn(node.func.attr, METHODS | own | DUNDERS, where)
        for where, node in nodes(ast.Attribute):
            self.assertNotIn(node.attr, NOT_USED, where)
            self.assertFalse(node.attr.startswith("_") and node.attr not in DUNDERS, where)

    def test_keywords_at_pythons_own(self):
        for where, node in nodes(ast.Call):
            called = node.func.id if isinstance(node.func, ast.Name) else ""
            if called in OWN_NAMES:
                self.assertLessEqual({given.arg for given in node.keywords}, KEYWORDS.get(called, set()), where)


class Values(unittest.TestCase):
    def test_powers_and_texts(self):
        for where, node in nodes(ast.BinOp):
            if isinstance(node.op, ast.Pow):
                self.assertIsInstance(node.right, ast.Constant, where)
                self.assertLessEqual(node.right.value, 64, where)
        for where, node in nodes(ast.Constant):
            self.assertIsInstance(node.value, (int, str, type(None)), where)
            self.assertNotIn("%", str(node.value), where)

    def test_is_stands_beside_plain_values_alone(self):
        for where, node in nodes(ast.Compare):
            for operator, right in zip(node.ops, node.comparators):
                if isinstance(operator, (ast.Is, ast.IsNot)):
                    self.assertIsInstance(right, ast.Constant, where)
                    self.assertIn(right.value, (None, True, False), where)

    def test_no_annotations(self):
        for where, node in nodes(ast.arg):
            self.assertIsNone(node.annotation, where)
        for where, node in nodes(ast.FunctionDef):
            self.assertIsNone(node.returns, where)

    def test_walked_at_once(self):
        for name, tree in trees():
            free = []
            for node in ast.walk(tree):
                if isinstance(node, (ast.For, ast.comprehension)):
                    free.append(node.iter)
                if isinstance(node, ast.Call) and isinstance(node.func, ast.Name) and node.func.id in WALKERS:
                    free.extend(node.args)
                if isinstance(node, ast.Call) and isinstance(node.func, ast.Attribute) and node.func.attr == "join":
                    free.extend(node.args)
            for node in ast.walk(tree):
                if isinstance(node, ast.Call) and isinstance(node.func, ast.Name) and node.func.id in WALKED:
                    self.assertTrue(any(node is one for one in free), f"{name}:{node.lineno}")

    def test_sets_are_not_written_out(self):
        for where, node in nodes(ast.Set):
            self.fail(where)

    def test_sets_stand_straight_within_sorted_or_len(self):
        for name, tree in trees():
            free = []
            for node in ast.walk(tree):
                if isinstance(node, ast.Call) and isinstance(node.func, ast.Name) and node.func.id in ("sorted", "len"):
                    free.extend([] if node.keywords else node.args)
            for node in ast.walk(tree):
                if isinstance(node, ast.Call) and isinstance(node.func, ast.Name):
                    if node.func.id in ("set", "frozenset"):
                        self.assertTrue(any(node is one for one in free), f"{name}:{node.lineno}")

    def test_what_is_walked_is_not_changed(self):
        for where, loop in nodes(ast.For):
            walked = [part.id for part in ast.walk(loop.iter) if isinstance(part, ast.Name)]
            if isinstance(loop.iter, ast.Call) and ast.unparse(loop.iter.func) in ("list", "sorted"):
                walked = []
            for node in [part for row in loop.body for part in ast.walk(row)]:
                if isinstance(node, ast.Call) and isinstance(node.func, ast.Attribute) and node.func.attr in CHANGES:
                    self.assertNotIn(ast.unparse(node.func.value), walked, where)
                if isinstance(node, ast.Subscript) and isinstance(node.ctx, ast.Store):
                    self.assertNotIn(ast.unparse(node.value), walked, where)


    def test_views_are_walked_at_once(self):
        for name, tree in trees():
            free = []
            for node in ast.walk(tree):
                if isinstance(node, (ast.For, ast.comprehension)):
                    free.append(node.iter)
                if isinstance(node, ast.Call) and isinstance(node.func, ast.Name) and node.func.id in WALKERS:
                    free.extend(node.args[:1])
            for node in ast.walk(tree):
                if isinstance(node, ast.Call) and isinstance(node.func, ast.Attribute):
                    if node.func.attr in ("items", "keys", "values"):
                        self.assertTrue(any(node is one for one in free), f"{name}:{node.lineno}")

    def test_methods_are_called_where_they_stand(self):
        own = {part.name for where, node in nodes(ast.ClassDef) for part in node.body
               if isinstance(part, ast.FunctionDef)}
        for name, tree in trees():
            called = [node.func for node in ast.walk(tree) if isinstance(node, ast.Call)]
            for node in ast.walk(tree):
                if isinstance(node, ast.Attribute) and node.attr in METHODS | own:
                    self.assertTrue(any(node is one for one in called), f"{name}:{node.lineno}")

    def test_tops_hold_plain_values_that_no_def_changes(self):
        plain_nodes = (ast.Constant, ast.Tuple, ast.List, ast.Dict, ast.UnaryOp, ast.USub, ast.Load)
        for name, tree in trees():
            tops = []
            for node in tree.body:
                if isinstance(node, ast.Assign):
                    tops.append(node.targets[0].id)
                    for part in ast.walk(node.value):
                        self.assertIsInstance(part, plain_nodes, f"{name}:{node.lineno}")
            imported = [alias.name for node in tree.body if isinstance(node, ast.ImportFrom) for alias in node.names]
            for node in ast.walk(tree):
                if isinstance(node, ast.Attribute) and isinstance(node.value, ast.Name):
                    self.assertNotIn(node.value.id, tops + imported, f"{name}:{node.lineno}")
                if isinstance(node, ast.Subscript) and isinstance(node.ctx, ast.Store):
                    self.assertNotIn(ast.unparse(node.value), tops, f"{name}:{node.lineno}")

    def test_no_escapes_but_the_plain_ones(self):
        for path in files():
            self.assertNotRegex(path.read_text(), r"\\[^nt\\\"']")

    def test_kinds_that_are_asked_for(self):
        for where, node in nodes(ast.Call):
            if ast.unparse(node.func) == "isinstance":
                asked = node.args[1].elts if isinstance(node.args[1], ast.Tuple) else [node.args[1]]
                kinds = {"int", "str", "bool", "list", "tuple", "dict"}
                self.assertLessEqual({ast.unparse(one) for one in asked}, kinds, where)

    def test_keys(self):
        own = {node.name for where, node in nodes(ast.FunctionDef)}
        listed = own | {"len", "int", "str", "abs", "sum", "min", "max", "tuple"}
        for where, node in nodes(ast.keyword):
            if node.arg == "key" and not isinstance(node.value, ast.Lambda):
                self.assertIn(ast.unparse(node.value), listed, where)
            if node.arg in ("reverse", "strict"):
                self.assertIsInstance(node.value, ast.Constant, where)


class Objects(unittest.TestCase):
    def test_imports_bear_their_own_names_and_the_packages_file_binds_none(self):
        for where, node in nodes(ast.alias):
            self.assertIsNone(node.asname, where)
        tree = ast.parse((PACKAGE / "__init__.py").read_text())
        self.assertEqual(list(bound_names(tree)), [])
        self.assertEqual([node for node in ast.walk(tree) if isinstance(node, ast.ImportFrom)], [])

    def test_errors_are_taken_by_the_names_of_own_ones(self):
        classes = {node.name for where, node in nodes(ast.ClassDef)}
        for where, node in nodes(ast.ExceptHandler):
            taken = node.type.elts if isinstance(node.type, ast.Tuple) else [node.type]
            for one in taken:
                self.assertIn(ast.unparse(one), classes | {"KeyError", "ZeroDivisionError", "StopIteration"}, where)

    def test_classes_are_only_called_raised_taken_or_bases(self):
        classes = {node.name for where, node in nodes(ast.ClassDef)}
        for name, tree in trees():
            free = []
            for node in ast.walk(tree):
                if isinstance(node, ast.Call):
                    free.append(node.func)
                if isinstance(node, ast.ClassDef):
                    free.extend(node.bases)
                if isinstance(node, ast.ExceptHandler):
                    free.extend(ast.walk(node.type))
            for node in ast.walk(tree):
                if isinstance(node, ast.Name) and node.id in classes:
                    self.assertTrue(any(node is one for one in free), f"{name}:{node.lineno}")

    def test_values_are_given_through_local_names(self):
        for name, tree in trees():
            tops = {node.name for node in tree.body if isinstance(node, (ast.FunctionDef, ast.ClassDef))}
            tops |= {alias.name for node in tree.body if isinstance(node, ast.ImportFrom) for alias in node.names}
            for node in ast.walk(tree):
                if isinstance(node, ast.Attribute) and isinstance(node.ctx, ast.Store):
                    self.assertIsInstance(node.value, ast.Name, f"{name}:{node.lineno}")
                    self.assertNotIn(node.value.id, tops, f"{name}:{node.lineno}")

    def test_methods_and_values_have_names_of_their_own(self):
        methods = [part.name for where, node in nodes(ast.ClassDef) for part in node.body
                   if isinstance(part, ast.FunctionDef) and part.name != "__init__"]
        values = {node.attr for where, node in nodes(ast.Attribute) if isinstance(node.ctx, ast.Store)}
        pythons = {name for kind in (str, int, list, tuple, dict, set, bytes) for name in dir(kind)}
        self.assertEqual(set(methods) & values, set())
        self.assertEqual(values & pythons, set())
        self.assertEqual(set(methods) & pythons - METHODS - {"add", "discard"}, set())

    def test_no_method_stands_twice_and_init_tells_nothing(self):
        for where, node in nodes(ast.ClassDef):
            methods = [part for part in node.body if isinstance(part, ast.FunctionDef)]
            self.assertEqual(len({part.name for part in methods}), len(methods), where)
            for part in methods:
                told = [row for row in ast.walk(part) if isinstance(row, ast.Return)]
                self.assertFalse(part.name == "__init__" and told, where)

    def test_errors_are_made_where_they_are_raised(self):
        for where, node in nodes(ast.Raise):
            self.assertIsInstance(node.exc, ast.Call, where)
            self.assertIsInstance(node.exc.func, ast.Name, where)


if __name__ == "__main__":
    unittest.main()
