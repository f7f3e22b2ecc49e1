"""The rules of the language that can be read off the files, and the places of the interface."""

import ast
import inspect
import pathlib
import re
import unittest

from statestay import (changes, desk, drawing, errors, matching, moves, repairs, right, screens, shapes, templates, texts,
                       verdicts)

PACKAGE = pathlib.Path(shapes.__file__).parent
BARRED = ["type", "typing", "typing_extensions", "enum", "Enum", "IntEnum", "StrEnum", "Flag", "IntFlag", "Generic",
          "Protocol", "ABC", "ABCMeta", "namedtuple", "NamedTuple", "TypedDict", "TYPE_CHECKING", "abstractmethod"]
BUILTINS = {
    "len", "range", "enumerate", "zip", "min", "max", "sum", "abs", "sorted", "reversed", "int", "str", "bool", "list",
    "tuple", "dict", "set", "isinstance", "ord", "repr", "any", "all", "divmod", "iter", "next", "property", "super",
    "staticmethod", "classmethod", "Exception", "ValueError", "TypeError", "KeyError", "IndexError", "LookupError",
    "ZeroDivisionError", "ArithmeticError", "OverflowError", "RuntimeError", "NotImplementedError", "NotImplemented",
}
GATHERING = ("sum", "min", "max", "sorted", "any", "all")
PYTHONS = set(dir(__builtins__)) if not isinstance(__builtins__, dict) else set(__builtins__)
NOT_ALLOWED = (ast.Global, ast.AsyncFunctionDef, ast.AsyncFor, ast.AsyncWith, ast.Await, ast.Div)
METHODS = """
append clear copy count endswith extend find get index insert isalnum isalpha isdigit islower isspace isupper items join
keys ljust lower lstrip partition pop remove replace reverse rfind rjust rpartition rsplit rstrip setdefault split
splitlines startswith strip update upper values zfill bit_length
""".split()
AT_ONCE = ("list", "tuple", "dict", "sorted", "sum", "any", "all", "enumerate", "zip", "min", "max")
INTERFACE = {
    shapes: {"Shape": ["__init__", "__eq__", "outer", "inner", "fields", "parent"], "check": [], "rows_in": [],
             "count_data": [], "all_data": []},
    templates: {"Template": ["__init__", "__eq__", "spread", "paths", "parts", "kinds", "item_at", "rows_around",
                             "with_item"]},
    drawing: {"Node": ["__init__", "below", "walk", "size"], "draw": []},
    matching: {"Rule": ["__init__", "__call__", "__eq__", "ALL", "PLAIN"], "addresses": [], "match": [], "faults": []},
    screens: {"Screen": ["__init__", "__getitem__", "__setitem__", "__contains__", "__len__", "data", "focus", "show",
                         "put_focus", "owners", "states", "lost", "mixed", "undo", "trial", "play"]},
    moves: {"done": [], "shifts": [], "least_moves": [], "moves": [], "cost": []},
    right: {"is_right": []},
    verdicts: {"verdicts": [], "losing": [], "mixing": [], "places": [], "data_at": []},
    changes: {"apply": [], "changes": [], "is_right_for": []},
    repairs: {"full_key": [], "candidates": [], "repaired": [], "repairs": [], "fewest": []},
    texts: {"write_shape": [], "write_template": [], "write_data": [], "read_shape": [], "read_template": [],
            "read_data": []},
    desk: {"Desk": ["__init__", "__getitem__", "__setitem__", "__contains__", "__len__", "do", "batch", "current", "undo",
                    "redo", "score", "trial", "trail", "use_rule", "rule"]},
}


def files():
    return sorted(path for path in PACKAGE.iterdir() if path.name != "__pycache__")


def trees():
    return [(path, ast.parse(path.read_text(encoding="utf-8"))) for path in files()]


def nodes(*kinds):
    """Each node of these kinds, with the name of its file and its line."""
    for path, tree in trees():
        for node in ast.walk(tree):
            if isinstance(node, kinds):
                yield f"{path.name}:{getattr(node, 'lineno', 0)}", node


class Files(unittest.TestCase):
    def test_names(self):
        self.assertLessEqual(len(files()), 100)
        for path in files():
            self.assertRegex(path.name, r"\A(__init__|__main__|[a-z][a-z0-9_]*)\.py\Z")
            self.assertNotIn(path.stem, PYTHONS | set(BARRED) | {"test", "tests", "testing", "site", "conftest"})
            self.assertFalse(path.stem.startswith(("law_", "test_")))

    def test_characters_and_sizes(self):
        for path in files():
            text = path.read_text(encoding="utf-8")
            self.assertRegex(text, r"\A[ -~\n]*\Z", path.name)
            lines = text.split("\n")
            self.assertLessEqual(len(lines), 399, path.name)
            self.assertLessEqual(max(map(len, lines)), 120, path.name)

    def test_barred_words(self):
        for path in files():
            text = path.read_text(encoding="utf-8")
            for word in BARRED:
                self.assertIsNone(re.search(rf"\b{word}\b", text), f"{word} in {path.name}")
            for word in ("dataclass", "overload", "contextmanager"):
                self.assertNotIn(word, text)

    def test_module_level(self):
        for path, tree in trees():
            allowed = (ast.ImportFrom, ast.FunctionDef, ast.ClassDef, ast.Assign)
            for node in tree.body[ast.get_docstring(tree) is not None:]:
                self.assertIsInstance(node, allowed, path.name)
                if isinstance(node, ast.Assign):
                    self.assertEqual([len(node.targets), type(node.targets[0])], [1, ast.Name], path.name)

    def test_imports(self):
        defined = {path.stem: {getattr(node, "name", None) or node.targets[0].id for node in tree.body
                               if isinstance(node, (ast.FunctionDef, ast.ClassDef, ast.Assign))}
                   for path, tree in trees()}
        self.assertEqual([where for where, node in nodes(ast.Import)], [])
        for where, node in nodes(ast.ImportFrom):
            if node.module == "__future__":
                continue
            package, name = node.module.split(".")
            self.assertEqual((package, node.level), ("statestay", 0), where)
            for alias in node.names:
                self.assertIn(alias.name, defined[name], where)
                self.assertIsNone(alias.asname, where)


class Code(unittest.TestCase):
    def test_functions(self):
        for where, node in nodes(ast.FunctionDef):
            self.assertLessEqual(node.end_lineno - node.lineno + 1, 40, where)
            self.assertEqual(node.args.posonlyargs, [], where)
            self.assertNotIn(node.name, PYTHONS, where)

    def test_names(self):
        for where, node in nodes(ast.Name, ast.arg, ast.Attribute):
            name = getattr(node, "id", None) or getattr(node, "arg", None) or getattr(node, "attr", None)
            if not (isinstance(node, ast.Attribute) and name == "__init__"):
                self.assertFalse(name.startswith("_"), where)
            if isinstance(node, ast.arg) or isinstance(node, ast.Name) and isinstance(node.ctx, ast.Store):
                self.assertNotIn(name, PYTHONS, where)
            if isinstance(node, ast.Name) and name in PYTHONS:
                self.assertIn(name, BUILTINS, where)

    def test_what_is_not_allowed(self):
        self.assertEqual([where for where, node in nodes(*NOT_ALLOWED)], [])
        for where, node in nodes(ast.Constant):
            self.assertNotIsInstance(node.value, (float, complex), where)
            self.assertFalse(isinstance(node.value, str) and "%" in node.value, where)

    def test_is(self):
        for where, node in nodes(ast.Compare):
            for sign, right in zip(node.ops, node.comparators):
                if isinstance(sign, (ast.Is, ast.IsNot)):
                    self.assertTrue(isinstance(right, ast.Constant) and right.value in (None, True, False), where)

    def test_generators(self):
        made = [node for where, node in nodes(ast.FunctionDef)]
        names = [node.name for node in made]
        generators = {node.name for node in made
                      if any(isinstance(one, (ast.Yield, ast.YieldFrom)) for one in ast.walk(node))}
        self.assertEqual(sorted(generators), sorted(name for name in names if name in generators))
        # Where a class has __eq__ or an operator, these take a list.
        for where, node in nodes(ast.Call):
            if isinstance(node.func, ast.Name) and node.func.id in GATHERING:
                self.assertEqual([one for one in node.args if isinstance(one, ast.GeneratorExp)], [], where)
                for given in [one for one in node.args if isinstance(one, ast.Call)]:
                    name = getattr(given.func, "id", None) or getattr(given.func, "attr", None)
                    self.assertNotIn(name, generators, where)

    def test_classes_with_operators(self):
        for where, node in nodes(ast.ClassDef):
            methods = [one.name for one in node.body if isinstance(one, ast.FunctionDef)]
            self.assertTrue("__getitem__" not in methods or "__iter__" in methods, where)
        stored = [node.attr for where, node in nodes(ast.Attribute) if isinstance(node.ctx, ast.Store)]
        for where, node in nodes(ast.FunctionDef):
            if "property" in [getattr(one, "id", "") for one in node.decorator_list]:
                self.assertNotIn(node.name, stored, where)

    def test_methods_of_builtin_values(self):
        own = {node.name for where, one in nodes(ast.ClassDef) for node in one.body if isinstance(node, ast.FunctionDef)}
        for where, node in nodes(ast.Call):
            if isinstance(node.func, ast.Attribute):
                self.assertIn(node.func.attr, own | set(METHODS), where)
                self.assertTrue(node.func.attr in own or not node.keywords, where)

    def test_what_is_iterated_at_once(self):
        for path, tree in trees():
            above = {inner: node for node in ast.walk(tree) for inner in ast.iter_child_nodes(node)}
            for node in [node for node in ast.walk(tree) if isinstance(node, ast.Call)]:
                name = getattr(node.func, "id", None) or "." + getattr(node.func, "attr", "")
                where = f"{path.name}:{node.lineno}"
                if name in ("zip", "enumerate", "range", "reversed", ".items", ".keys", ".values"):
                    outer = above[node]
                    called = isinstance(outer, ast.Call) and getattr(outer.func, "id", "") in AT_ONCE
                    self.assertTrue(called or isinstance(outer, (ast.For, ast.comprehension)), where)
                if name == "reversed":
                    # Where a class has __getitem__, reversed takes only these.
                    self.assertIn(getattr(node.args[0].func, "id", ""), ("list", "tuple", "sorted", "range"), where)

    def test_sets(self):
        for path, tree in trees():
            above = {inner: node for node in ast.walk(tree) for inner in ast.iter_child_nodes(node)}
            for node in ast.walk(tree):
                made = isinstance(node, ast.Call) and getattr(node.func, "id", "") in ("set", "frozenset")
                if made or isinstance(node, (ast.Set, ast.SetComp)):
                    outer = above[node]
                    name = getattr(getattr(outer, "func", None), "id", "")
                    self.assertIn(name, ("sorted", "len"), f"{path.name}:{node.lineno}")

    def test_numbers_of_arguments(self):
        functions = [node for path, tree in trees() for node in tree.body if isinstance(node, ast.FunctionDef)]
        names = [node.name for node in functions]
        made = {node.name: (node.args, 0) for node in functions if names.count(node.name) == 1}
        made.update({one.name: (node.args, 1) for where, one in nodes(ast.ClassDef) for node in one.body
                     if getattr(node, "name", "") == "__init__"})
        for where, node in nodes(ast.Call):
            if getattr(node.func, "id", None) in made:
                takes, own = made[node.func.id]
                names = [one.arg for one in takes.args][own:]
                given = names[:len(node.args)] + [one.arg for one in node.keywords]
                self.assertLessEqual(len(node.args), len(names), where)
                self.assertEqual(len(set(given)), len(given), where)
                self.assertLessEqual(set(given), set(names + [one.arg for one in takes.kwonlyargs]), where)
                self.assertLessEqual(set(names[:len(names) - len(takes.defaults)]), set(given), where)

    def test_names_of_imports_and_classes(self):
        for path, tree in trees():
            several = {alias.name for node in tree.body if isinstance(node, ast.ImportFrom) for alias in node.names}
            used = {node.id for node in ast.walk(tree) if isinstance(node, ast.Name)}
            self.assertLessEqual(several, used, path.name)
            several |= {node.name for node in tree.body if isinstance(node, ast.ClassDef)}
            local = {node.id for node in ast.walk(tree) if isinstance(node, ast.Name) and isinstance(node.ctx, ast.Store)}
            local |= {node.arg for node in ast.walk(tree) if isinstance(node, ast.arg)}
            self.assertEqual(several & local, set(), path.name)

    def test_no_two_files_import_from_each_other(self):
        left = {path.stem: {node.module.split(".")[1] for node in tree.body if isinstance(node, ast.ImportFrom)}
                for path, tree in trees()}
        while left:
            free = [name for name, needed in left.items() if not needed & set(left)]
            self.assertTrue(free, left)
            left = {name: needed for name, needed in left.items() if name not in free}

    def test_no_name_is_a_method_and_an_attribute(self):
        methods = {node.name for where, one in nodes(ast.ClassDef) for node in one.body
                   if isinstance(node, ast.FunctionDef)}
        stored = {node.attr for where, node in nodes(ast.Attribute) if isinstance(node.ctx, ast.Store)}
        self.assertEqual(methods & stored, set())


class Interface(unittest.TestCase):
    def test_where_each_name_is_defined(self):
        for module, names in INTERFACE.items():
            for name, methods in names.items():
                self.assertEqual(getattr(module, name).__module__, module.__name__)
                for method in methods:
                    self.assertIn(method, vars(getattr(module, name)))

    def test_properties(self):
        for made, name in ((screens.Screen, "data"), (screens.Screen, "focus"), (desk.Desk, "rule")):
            self.assertIsInstance(vars(made)[name], property)
            self.assertIsNone(vars(made)[name].fset)

    def test_sorts_of_deeds(self):
        self.assertIsInstance(changes.SORTS, tuple)

    def test_arguments(self):
        for call, arguments in (
            (shapes.Shape, "(flags, lists)"), (shapes.check, "(shape, data)"), (shapes.rows_in, "(data)"),
            (shapes.count_data, "(shape, most, *, ids=2)"), (shapes.all_data, "(shape, most, *, ids=2)"),
            (templates.Template, "(shape, items, *, pieces=None)"), (shapes.Shape.inner, "(self, name)"),
            (shapes.Shape.fields, "(self, name)"), (shapes.Shape.parent, "(self, name)"),
            (shapes.Shape.outer, "(self)"), (templates.Template.item_at, "(self, path)"),
            (templates.Template.rows_around, "(self, path)"), (templates.Template.with_item, "(self, path, item)"),
            (drawing.Node, "(kind, key, owner, nodes=())"), (drawing.draw, "(template, data)"),
            (drawing.Node.below, "(self)"), (drawing.Node.walk, "(self)"), (drawing.Node.size, "(self)"),
            (matching.Rule, "(place='all')"), (matching.Rule.__call__, "(self, nodes)"),
            (matching.addresses, "(rule, nodes)"), (matching.match, "(rule, old, new)"),
            (matching.faults, "(rule, old, new)"), (screens.Screen, "(template, rule, data)"),
            (screens.Screen.show, "(self, data)"), (screens.Screen.put_focus, "(self, owner)"),
            (screens.Screen.owners, "(self)"), (screens.Screen.states, "(self)"), (screens.Screen.lost, "(self)"),
            (screens.Screen.mixed, "(self)"), (screens.Screen.undo, "(self)"), (screens.Screen.trial, "(self, data)"),
            (screens.Screen.play, "(self, several)"),
            (moves.done, "(labels, several)"), (moves.shifts, "(old, new)"), (moves.least_moves, "(old, new)"),
            (moves.moves, "(rule, old, new)"), (moves.cost, "(rule, old, new)"), (right.is_right, "(template, rule)"),
            (verdicts.verdicts, "(template, rule)"), (verdicts.losing, "(template, rule, path)"),
            (verdicts.mixing, "(template, rule, path, other)"), (verdicts.places, "(template, rule, path, most)"),
            (verdicts.data_at, "(template, rule, path, index)"),
            (changes.apply, "(shape, data, deed)"), (changes.changes, "(shape, data, sorts, most)"),
            (changes.is_right_for, "(template, rule, sorts, most)"), (repairs.full_key, "(template, path)"),
            (repairs.candidates, "(template)"), (repairs.repaired, "(template, chosen)"),
            (repairs.repairs, "(template, rule)"), (repairs.fewest, "(template, rule)"),
            (texts.write_shape, "(shape)"), (texts.write_template, "(template)"), (texts.write_data, "(shape, data)"),
            (texts.read_shape, "(text)"), (texts.read_template, "(shape, text)"), (texts.read_data, "(shape, text)"),
            (desk.Desk, "(template, rule)"), (desk.Desk.do, "(self, edit)"), (desk.Desk.batch, "(self, edits)"),
            (desk.Desk.trial, "(self, edits)"), (desk.Desk.use_rule, "(self, rule)"), (desk.Desk.trail, "(self)"),
            (desk.Desk.current, "(self)"), (desk.Desk.score, "(self)"), (desk.Desk.undo, "(self)"),
            (desk.Desk.redo, "(self)"),
            (errors.InvalidTemplate, "(part, path)"), (errors.NoList, "(name)"), (errors.LimitExceeded, "(limit)"),
        ):
            self.assertEqual(str(inspect.signature(call)), arguments)


if __name__ == "__main__":
    unittest.main()
