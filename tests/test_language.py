"""The rules of the language that can be seen in the package's files, by their numbers."""

import ast
import builtins
import pathlib
import re
import unittest

PACKAGE = pathlib.Path(__file__).resolve().parent.parent / "keepparts"
BUILTINS = set(
    "len range enumerate zip min max sum abs sorted reversed int str bool list tuple dict set frozenset isinstance "
    "ord repr any all divmod Exception ValueError TypeError KeyError IndexError LookupError ZeroDivisionError "
    "ArithmeticError OverflowError RuntimeError NotImplementedError AttributeError StopIteration".split()
)
METHODS = set(
    "append clear copy count endswith extend find get index insert isalnum isalpha isdigit islower isspace isupper "
    "items join keys ljust lower lstrip partition pop remove replace reverse rfind rjust rpartition rsplit rstrip "
    "setdefault split splitlines startswith strip update upper values zfill bit_length".split()
)
SPECIAL = {"__init__", "__eq__", "__repr__", "__str__", "__len__"}
NO_NAMES = set(
    "register mro elements open input version_info with_traceback add_note attrgetter breakpoint builtins compile "
    "copyright credits delattr dir eval exec exit gc getattr globals hasattr help id importlib license locals "
    "methodcaller os quit setattr super type vars sys format format_map __name__".split()
)
NO_WORDS = (
    r"\b(type|typing|typing_extensions|enum|Enum|IntEnum|StrEnum|Flag|IntFlag|Generic|Protocol|ABC|ABCMeta|namedtuple|"
    r"NamedTuple|TypedDict|TYPE_CHECKING|abstractmethod)\b|dataclass|overload|contextmanager"
)
NO_VALUES = set("items keys values pop update append clear extend insert remove reverse setdefault sort args encode "
                "format".split())
FREE_VALUES = set("count index title find get join lower upper split strip copy add".split())
NO_NODES = (
    ast.With, ast.Match, ast.Delete, ast.Global, ast.Nonlocal, ast.Assert, ast.Yield, ast.YieldFrom, ast.Await,
    ast.AsyncFunctionDef, ast.AsyncFor, ast.AsyncWith, ast.SetComp, ast.DictComp, ast.GeneratorExp, ast.NamedExpr,
    ast.Starred, ast.Div, ast.MatMult, ast.Import, ast.AnnAssign,
)


def sources():
    found = []
    for path in sorted(PACKAGE.rglob("*")):
        if "__pycache__" not in path.parts:
            found.append((path, path.read_text(encoding="utf-8")))
    return found


def nodes(wanted):
    for path, text in sources():
        for node in ast.walk(ast.parse(text)):
            if isinstance(node, wanted):
                yield f"{path.name}:{getattr(node, 'lineno', '?')}", node


def with_parents():
    """Each node with the file's name and tree, and with what it stands in, from near to far."""
    for path, text in sources():
        tree = ast.parse(text)
        waiting = [(tree, [])]
        while waiting:
            node, around = waiting.pop()
            yield f"{path.name}:{getattr(node, 'lineno', '?')}", tree, node, around
            waiting.extend((child, [node] + around) for child in ast.iter_child_nodes(node))


def called(node):
    """The name of what is called: a name's own, or a method's behind its dot; else None."""
    if not isinstance(node, ast.Call):
        return None
    return node.func.attr if isinstance(node.func, ast.Attribute) else node.func.id


def top_names(tree):
    """What a file's top binds by itself: defs, classes, values."""
    found = []
    for node in tree.body:
        if isinstance(node, (ast.FunctionDef, ast.ClassDef)):
            found.append(node.name)
        elif isinstance(node, ast.Assign):
            found.append(node.targets[0].id)
    return found


class Files(unittest.TestCase):
    def test_names_and_signs(self):
        for path, text in sources():
            self.assertRegex(path.name, r"^([a-z][a-z0-9_]*|__init__)\.py$")
            self.assertEqual(path.parent, PACKAGE)
            self.assertNotIn(path.stem, dir(builtins))
            self.assertRegex(text, r"\A[ -~\n]*\n\Z", path.name)
            self.assertIsNone(re.search(NO_WORDS, text), path.name)

    def test_sizes(self):
        for path, text in sources():
            self.assertLessEqual(len(text.splitlines()), 399, path.name)
            self.assertLessEqual(max(len(row) for row in text.splitlines()), 120, path.name)
        for place, node in nodes(ast.FunctionDef):
            self.assertLessEqual(node.end_lineno - node.lineno + 1, 40, place)

    def test_tops(self):
        for path, text in sources():
            tree = ast.parse(text)
            self.assertTrue(ast.get_docstring(tree), path.name)
            for node in tree.body[1:]:
                self.assertIsInstance(node, (ast.ImportFrom, ast.FunctionDef, ast.ClassDef, ast.Assign), path.name)
                if isinstance(node, ast.Assign):
                    ast.literal_eval(node.value)
                    self.assertNotIsInstance(node.value, (ast.List, ast.Set), path.name)
            names = top_names(tree)
            self.assertEqual(len(set(names)), len(names), path.name)

    def test_imports(self):
        tops = {f"keepparts.{path.stem}": top_names(ast.parse(text)) for path, text in sources()}
        draws = {name: set() for name in tops}
        for path, text in sources():
            for node in ast.walk(ast.parse(text)):
                if isinstance(node, ast.ImportFrom):
                    self.assertEqual(node.level, 0)
                    draws[f"keepparts.{path.stem}"].add(node.module)
                    for name in node.names:
                        self.assertIsNone(name.asname)
                        self.assertIn(name.name, tops[node.module], path.name)
        while draws:
            free = [name for name in draws if not draws[name] & set(draws)]
            self.assertTrue(free, f"these draw from one another: {draws}")
            for name in free:
                del draws[name]

    def test_interface(self):
        where = [path.name for path, text in sources() if "answers" in top_names(ast.parse(text))]
        self.assertEqual(where, ["parts.py"])


class Code(unittest.TestCase):
    def test_no_such_nodes(self):
        self.assertEqual([place for place, node in nodes(NO_NODES)], [])

    def test_statements(self):
        for place, node in nodes((ast.For, ast.While)):
            self.assertEqual(node.orelse, [], place)
        for place, node in nodes(ast.Assign):
            self.assertEqual(len(node.targets), 1, place)
        for place, node in nodes(ast.Try):
            self.assertEqual(node.finalbody, [], place)
            self.assertTrue(all(handler.type is not None for handler in node.handlers), place)

    def test_functions_and_classes(self):
        for place, node in nodes(ast.FunctionDef):
            given = node.args
            self.assertFalse(node.decorator_list or given.vararg or given.kwarg or given.kwonlyargs, place)
            self.assertFalse(given.posonlyargs or node.returns, place)
            self.assertTrue(all(one.annotation is None for one in given.args), place)
        for place, node in nodes(ast.ClassDef):
            self.assertFalse(node.decorator_list or node.keywords or len(node.bases) > 1, place)
            self.assertTrue(ast.get_docstring(node), place)
            self.assertTrue(all(isinstance(one, ast.FunctionDef) for one in node.body[1:]), place)

    def test_values(self):
        for place, node in nodes(ast.Constant):
            self.assertIsInstance(node.value, (int, str, type(None)), place)
            if isinstance(node.value, str):
                self.assertNotIn("%", node.value, place)
        for place, node in nodes(ast.FormattedValue):
            self.assertIsInstance(node.value, ast.Name, place)
        for place, node in nodes(ast.ListComp):
            self.assertEqual(len(node.generators), 1, place)
            self.assertLessEqual(len(node.generators[0].ifs), 1, place)
        for place, node in nodes(ast.Compare):
            for sign, value in zip(node.ops, node.comparators):
                if isinstance(sign, (ast.Is, ast.IsNot)):
                    self.assertIsInstance(value, ast.Constant, place)

    def test_names(self):
        for place, node in nodes((ast.Name, ast.arg, ast.FunctionDef, ast.ClassDef, ast.Attribute)):
            name = getattr(node, "id", None) or getattr(node, "arg", None) or getattr(node, "attr", None) or node.name
            self.assertNotIn(name, NO_NAMES, place)
            self.assertTrue(name in SPECIAL or not name.startswith("_"), place)
            if isinstance(node, ast.Name) and isinstance(node.ctx, ast.Load):
                self.assertTrue(name in BUILTINS or not hasattr(builtins, name), place)
            elif not isinstance(node, ast.Attribute) and name not in SPECIAL:
                self.assertFalse(hasattr(builtins, name), place)

    def test_methods_and_values_of_objects(self):
        methods = {one.name for _, node in nodes(ast.ClassDef) for one in node.body[1:]}
        values = {node.attr for _, node in nodes(ast.Attribute) if isinstance(node.ctx, ast.Store)}
        self.assertEqual(methods & values, set())
        taken = {name for kind in (str, int, list, dict, set, bytes) for name in dir(kind)}
        self.assertEqual((methods | values) & (taken - SPECIAL - FREE_VALUES), set())
        self.assertEqual(values & NO_VALUES, set())
        for place, node in nodes(ast.Call):
            if isinstance(node.func, ast.Attribute):
                self.assertIn(node.func.attr, methods | METHODS, place)


WALKED = ("zip", "enumerate", "reversed", "range", "items", "keys", "values")
WALKERS = ("list", "tuple", "dict", "sorted", "sum", "any", "all", "enumerate", "zip", "min", "max")
READERS = ("len", "list", "dict", "tuple", "sorted", "min", "max", "sum")
CHANGES = ("append", "clear", "extend", "insert", "pop", "remove", "reverse", "setdefault", "update")
KEYWORDS = {"sorted": "key reverse", "min": "key default", "max": "key default", "sum": "start", "enumerate": "start",
            "zip": "strict"}


class Narrower(unittest.TestCase):
    """What can be seen of L15 to L28."""

    def test_15_what_a_files_top_holds_is_only_read(self):
        for place, tree, node, around in with_parents():
            held = {one.targets[0].id: one.value for one in tree.body if isinstance(one, ast.Assign)}
            for value in held.values():
                within = list(ast.walk(value))[1:]
                self.assertFalse(any(isinstance(one, (ast.List, ast.Dict, ast.Set)) for one in within), place)
            if isinstance(node, ast.Name) and isinstance(held.get(node.id), (ast.List, ast.Dict, ast.Tuple)):
                near = around[0]
                reads = isinstance(near, (ast.For, ast.comprehension, ast.Compare)) or called(near) in READERS
                reads = reads or isinstance(near, ast.Subscript) and isinstance(near.ctx, ast.Load)
                reads = reads or isinstance(near, ast.Attribute) and near.attr in ("get", "index", "count")
                self.assertTrue(reads or isinstance(node.ctx, ast.Store), place)

    def test_15_names_within_are_no_classes_and_no_imports(self):
        for place, tree, node, around in with_parents():
            taken = {one.name for one in tree.body if isinstance(one, ast.ClassDef)}
            taken |= {name.name for one in tree.body if isinstance(one, ast.ImportFrom) for name in one.names}
            if isinstance(node, ast.arg) or isinstance(node, ast.Name) and isinstance(node.ctx, ast.Store):
                name = node.arg if isinstance(node, ast.arg) else node.id
                self.assertNotIn(name, taken, place)
                self.assertFalse(hasattr(builtins, name), place)

    def test_18_where_a_class_stands(self):
        classes = {node.name for _, node in nodes(ast.ClassDef)}
        for place, tree, node, around in with_parents():
            if isinstance(node, ast.Name) and node.id in classes:
                near = around[1] if isinstance(around[0], ast.Tuple) else around[0]
                stands = isinstance(near, (ast.ClassDef, ast.ExceptHandler, ast.Raise)) or called(near) == "isinstance"
                self.assertTrue(stands or isinstance(near, ast.Call) and near.func is node, place)

    def test_18_no_method_twice(self):
        for place, node in nodes(ast.ClassDef):
            methods = [one.name for one in node.body[1:]]
            self.assertEqual(len(set(methods)), len(methods), place)

    def test_19_errors(self):
        own = {node.name for _, node in nodes(ast.ClassDef) if node.bases} | {"KeyError", "ZeroDivisionError"}
        for place, node in nodes(ast.ExceptHandler):
            self.assertIn(node.type.id, own, place)
        for place, node in nodes(ast.Raise):
            self.assertIn(called(node.exc), own, place)

    def test_22_pythons_own_are_called(self):
        for place, tree, node, around in with_parents():
            if isinstance(node, ast.Name) and node.id in BUILTINS:
                stands = isinstance(around[0], ast.Call) and around[0].func is node
                stands = stands or "isinstance" in [called(one) for one in around[:2]]
                self.assertTrue(stands or isinstance(around[0], (ast.keyword, ast.ClassDef, ast.ExceptHandler)), place)
            if isinstance(node, ast.Call) and node.keywords and hasattr(builtins, called(node)):
                for keyword in node.keywords:
                    self.assertIn(keyword.arg, KEYWORDS.get(called(node), "").split(), place)

    def test_23_walked_at_once(self):
        for place, tree, node, around in with_parents():
            if called(node) in WALKED:
                near = around[0]
                at_once = isinstance(near, (ast.For, ast.comprehension)) and near.iter is node
                at_once = at_once or called(near) in WALKERS and near.args[0] is node
                self.assertTrue(at_once or called(near) == "zip", place)

    def test_23_what_is_walked_is_not_changed(self):
        for place, node in nodes(ast.For):
            walked = node.iter
            while called(walked) in WALKED:
                walked = walked.func.value if isinstance(walked.func, ast.Attribute) else walked.args[0]
            for row in node.body:
                for within in ast.walk(row):
                    if called(within) in CHANGES and isinstance(within.func, ast.Attribute):
                        self.assertNotEqual(ast.dump(within.func.value), ast.dump(walked), place)
                    if isinstance(within, ast.Subscript) and isinstance(within.ctx, ast.Store):
                        self.assertNotEqual(ast.unparse(within.value), ast.unparse(walked), place)

    def test_24_sets(self):
        for place, tree, node, around in with_parents():
            self.assertNotIsInstance(node, ast.Set, place)
            if called(node) in ("set", "frozenset"):
                far = [one for one in around if not isinstance(one, ast.BinOp)]
                on_the_spot = isinstance(far[0], ast.Compare) or called(far[0]) in ("sorted", "len")
                self.assertTrue(on_the_spot and not getattr(far[0], "keywords", []), place)

    def test_27_numbers_and_texts(self):
        for place, node in nodes(ast.BinOp):
            self.assertNotIsInstance(node.op, ast.Pow, place)
        for path, text in sources():
            self.assertEqual(re.findall(r"\\[^nt\\'\"]", text), [], path.name)

    def test_28_methods_with_two_underscores(self):
        for place, node in nodes(ast.FunctionDef):
            if node.name == "__init__":
                self.assertEqual([one for one in ast.walk(node) if isinstance(one, ast.Return)], [], place)
            else:
                self.assertFalse(node.name.startswith("__"), place)


if __name__ == "__main__":
    unittest.main()
