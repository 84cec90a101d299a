"""The form of the package: what of its rules a test can see in its files."""

import ast
import pathlib
import unittest

import whilebusy

FOLDER = pathlib.Path(whilebusy.__file__).parent
FILES = sorted(FOLDER.glob("*.py"))
BUILTINS = {
    "len", "range", "enumerate", "zip", "min", "max", "sum", "abs", "sorted", "reversed", "int", "str", "bool", "list",
    "tuple", "dict", "set", "isinstance", "repr", "any", "all", "super", "ValueError", "TypeError",
}
METHODS = {
    "append", "pop", "extend", "count", "get", "index", "items", "join", "copy", "split", "bit_length", "partition",
    "startswith", "isascii", "isdigit",
}
OWN_METHODS = {"begin", "undo", "sees", "more", "trying", "_works", "_can_do", "__init__"}
CHANGING = {"append", "pop", "extend", "insert", "remove", "clear", "update", "setdefault", "reverse", "sort", "add"}
DECORATORS = {"property", "classmethod"}
# The methods and properties that stand in each class itself.
CLASS_METHODS = {
    "Sign": {
        "__init__", "__call__", "__contains__", "__and__", "__or__", "__xor__", "__invert__", "__iand__", "__ior__",
        "__ixor__", "__eq__", "__ne__", "__le__", "__lt__", "__bool__", "house", "condition", "least", "busy",
    },
    "Board": {
        "__init__", "__getitem__", "__setitem__", "__contains__", "__len__", "__iter__", "begin", "undo", "house", "run",
        "state", "sees", "more", "twin", "trying", "rehearse",
    },
    "CappedBoard": {"__init__", "most", "begin", "twin"},
    "CountedBoard": {"__init__", "counts", "begin", "twin"},
    "CappedCountedBoard": {"__init__", "most", "counts", "begin", "twin"},
    "Console": {"__init__", "execute"},
}
# What may assign to attributes, beside __init__: operators and properties do not.
ASSIGNING = {
    "signs": {"__iand__", "__ior__", "__ixor__"},
    "boards": {"begin", "__setitem__", "undo", "twin", "__enter__", "__exit__"},
}
DEFINED = {
    "errors": {"SignError", "InvalidHouse", "InvalidText", "InvalidCommand"},
    "houses": {"is_house", "is_condition", "named", "busy_of", "is_crowded"},
    "runs": {"is_run", "state_after", "holds", "possible_events"},
    "ways": {"ways", "reached", "way_sums", "way_effects"},
    "reach": {
        "fewest_works", "shortest_run", "never", "same", "within", "fewest_parting", "views", "fewest_more",
        "more_events", "settled_range", "fewest_for", "mended", "least_mends",
    },
    "signs": {"Sign", "joined"},
    "boards": {"Board", "CappedBoard", "CountedBoard", "CappedCountedBoard"},
    "texts": {"write_condition", "read_condition", "write_run", "read_run"},
    "console": {"Console"},
}
PLAIN_NODES = (ast.Constant, ast.Tuple, ast.List, ast.Dict, ast.UnaryOp, ast.USub, ast.Load)


def names_bound(tree):
    """The names that a file binds at its top."""
    found = []
    for node in tree.body:
        if isinstance(node, (ast.FunctionDef, ast.ClassDef)):
            found.append(node.name)
        elif isinstance(node, ast.ImportFrom):
            found.extend(alias.asname or alias.name for alias in node.names)
        elif isinstance(node, ast.Assign):
            found.extend(target.id for target in node.targets)
    return found


def named_at_the_root(node):
    """The name of what is changed, if the node is an item of it or it itself."""
    while isinstance(node, ast.Subscript):
        node = node.value
    return ast.unparse(node)


def changed_by(function):
    """The names of what a function changes."""
    found = set()
    for node in ast.walk(function):
        if isinstance(node, ast.Call) and isinstance(node.func, ast.Attribute) and node.func.attr in CHANGING:
            found.add(named_at_the_root(node.func.value))
        elif isinstance(node, ast.Subscript) and not isinstance(node.ctx, ast.Load):
            found.add(named_at_the_root(node))
        elif isinstance(node, ast.AugAssign) and not isinstance(node.value, ast.Constant):
            found.add(named_at_the_root(node.target))
    return found


def creates(node):
    """Whether an expression surely gives a new list or dict."""
    if isinstance(node, ast.BinOp) and isinstance(node.op, (ast.Add, ast.Mult)):
        return creates(node.left) or creates(node.right)
    return isinstance(node, (ast.List, ast.Dict, ast.ListComp, ast.DictComp))


def created_by(function):
    """The local names that are only ever assigned new lists and dicts."""
    given, other = set(), {argument.arg for argument in function.args.args}
    for node in ast.walk(function):
        if isinstance(node, ast.Assign):
            for target in node.targets:
                (given if creates(node.value) else other).add(ast.unparse(target))
        elif isinstance(node, (ast.For, ast.comprehension)):
            other |= {part.id for part in ast.walk(node.target) if isinstance(part, ast.Name)}
    return given - other


def functions_in(tree):
    return [node for node in ast.walk(tree) if isinstance(node, ast.FunctionDef)]


def called_by(function):
    """The names of the functions and methods that a function calls, and of the properties that it reads."""
    found = {node.attr for node in ast.walk(function) if isinstance(node, ast.Attribute)}
    found |= {node.func.id for node in ast.walk(function) if isinstance(node, ast.Call)
              and isinstance(node.func, ast.Name)}
    return found


def is_quiet(function):
    """Whether a function is an operator or a property that must not change anything."""
    if function.name in ("__init__", "__call__", "__enter__", "__exit__", "__setitem__"):
        return False
    if function.name in ASSIGNING["signs"]:
        return False
    return function.name.startswith("__") or "property" in {name.id for name in function.decorator_list}


class Form(unittest.TestCase):
    def each(self):
        for path in FILES:
            text = path.read_text(encoding="utf-8")
            with self.subTest(file=path.name):
                yield path, text, ast.parse(text)

    def test_the_folder_holds_nothing_else(self):
        others = [path.name for path in FOLDER.iterdir() if path not in FILES and path.name != "__pycache__"]
        self.assertEqual(others, [])

    def test_lines_and_characters(self):
        for _, text, _ in self.each():
            lines = text.split("\n")
            self.assertLessEqual(len(lines), 400)
            self.assertLessEqual(max(len(line) for line in lines), 120)
            self.assertTrue(all(sign == "\n" or " " <= sign <= "~" for sign in text))

    def test_functions_are_short_and_plainly_decorated(self):
        for _, _, tree in self.each():
            plain = [node for node in tree.body if isinstance(node, ast.FunctionDef)]
            self.assertEqual([node.name for node in plain if node.decorator_list], [])
            for node in ast.walk(tree):
                if isinstance(node, ast.FunctionDef):
                    self.assertLessEqual(node.end_lineno - node.lineno + 1, 40)
                    self.assertLessEqual({name.id for name in node.decorator_list}, DECORATORS)

    def test_functions_change_only_what_they_created(self):
        for _, _, tree in self.each():
            for node in functions_in(tree):
                with self.subTest(function=node.name):
                    # A board counts in a list of its own, and a console puts its numbers into a board.
                    left = {"self._counts"} if node.name == "begin" else {"board"}
                    if node.name not in ("begin", "do_event", "answer"):
                        left = set()
                    self.assertEqual(changed_by(node) - created_by(node), left & changed_by(node))

    def test_attributes_are_assigned_by_few(self):
        for path, _, tree in self.each():
            for node in functions_in(tree):
                if node.name not in ASSIGNING.get(path.stem, set()) | {"__init__"}:
                    stored = [part for part in ast.walk(node) if isinstance(part, ast.Attribute)
                              and not isinstance(part.ctx, ast.Load)]
                    self.assertEqual(stored, [])

    def test_operators_and_properties_lead_to_nothing_that_changes(self):
        calls = {}
        for _, _, tree in self.each():
            for node in functions_in(tree):
                calls[node.name] = calls.get(node.name, set()) | called_by(node)
        waiting = [node.name for _, _, tree in self.each() for node in functions_in(tree) if is_quiet(node)]
        self.assertTrue({"__and__", "__getitem__", "__len__", "__contains__", "state", "counts"} <= set(waiting))
        met = set()
        while waiting:
            name = waiting.pop()
            if name not in met:
                met.add(name)
                waiting.extend(calls.get(name, set()))
        self.assertEqual(met & {"begin", "undo", "twin", "trying", "rehearse", "do_event", "execute", "Trying"}, set())

    def test_boards_are_not_iterated_over(self):
        tree = ast.parse((FOLDER / "boards.py").read_text(encoding="utf-8"))
        [method] = [node for node in functions_in(tree) if node.name == "__iter__"]
        [row] = method.body
        self.assertIsInstance(row, ast.Raise)
        self.assertEqual(row.exc.func.id, "TypeError")

    def test_the_end_of_a_block_is_plain(self):
        tree = ast.parse((FOLDER / "boards.py").read_text(encoding="utf-8"))
        [method] = [node for node in functions_in(tree) if node.name == "__exit__"]
        for row in method.body:
            self.assertIsInstance(row, ast.Assign)
            self.assertIsInstance(row.value, ast.Attribute)

    def test_words_that_a_package_with_items_does_not_have(self):
        for _, text, tree in self.each():
            for word in ("(type)", "Meta", "metaclass="):
                self.assertNotIn(word, text)
            for node in functions_in(tree):
                self.assertNotEqual(node.name, "keys")

    def test_no_file_leads_back_to_itself(self):
        imports = {}
        for path, _, tree in self.each():
            imports[path.stem] = {node.module.split(".")[1] for node in tree.body if isinstance(node, ast.ImportFrom)}
        while imports:
            free = {name for name, needed in imports.items() if not needed & set(imports)}
            self.assertTrue(free, imports)
            for name in free:
                del imports[name]

    def test_methods_stand_in_their_class(self):
        met = {}
        for _, _, tree in self.each():
            for node in tree.body:
                if isinstance(node, ast.ClassDef):
                    met[node.name] = {part.name for part in node.body if isinstance(part, ast.FunctionDef)}
        for name, methods in CLASS_METHODS.items():
            self.assertEqual(methods - met[name], set())

    def test_imports(self):
        for _, _, tree in self.each():
            for node in ast.walk(tree):
                self.assertNotIsInstance(node, ast.Import)
                if isinstance(node, ast.ImportFrom):
                    self.assertTrue(node.module.startswith("whilebusy."), node.module)
                    self.assertEqual(node.level, 0)
                    told = ast.parse((FOLDER / (node.module.split(".")[1] + ".py")).read_text(encoding="utf-8"))
                    for alias in node.names:
                        self.assertIsNone(alias.asname)
                        self.assertIn(alias.name, names_bound(told))
                    self.assertIn(node, tree.body)

    def test_each_name_is_bound_once_and_used(self):
        for _, _, tree in self.each():
            bound = names_bound(tree)
            self.assertEqual(len(bound), len(set(bound)))
            used = {node.id for node in ast.walk(tree) if isinstance(node, ast.Name)}
            imported = [alias.name for node in tree.body if isinstance(node, ast.ImportFrom) for alias in node.names]
            self.assertEqual(set(imported) - used, set())

    def test_plain_values_at_the_top(self):
        for _, _, tree in self.each():
            for node in tree.body:
                self.assertIsInstance(node, (ast.Expr, ast.ImportFrom, ast.FunctionDef, ast.ClassDef, ast.Assign))
                if isinstance(node, ast.Expr):
                    self.assertIsInstance(node.value, ast.Constant)
                if isinstance(node, ast.Assign):
                    self.assertTrue(all(isinstance(part, PLAIN_NODES) for part in ast.walk(node.value)))

    def test_no_words_outside_of_the_language(self):
        barred = (ast.GeneratorExp, ast.Lambda, ast.Global, ast.AsyncFunctionDef, ast.Div, ast.Set, ast.AnnAssign)
        for _, _, tree in self.each():
            for node in ast.walk(tree):
                self.assertNotIsInstance(node, barred)
                if isinstance(node, ast.Constant):
                    self.assertNotIsInstance(node.value, (float, complex))
                    self.assertNotIn("%", str(node.value))

    def test_calls(self):
        for _, _, tree in self.each():
            own = set(names_bound(tree)) | BUILTINS | {"cls"}
            for node in ast.walk(tree):
                if isinstance(node, ast.Call) and isinstance(node.func, ast.Name):
                    self.assertIn(node.func.id, own)
                elif isinstance(node, ast.Call):
                    self.assertIn(node.func.attr, METHODS | OWN_METHODS)

    def test_no_own_name_is_one_of_python(self):
        for _, _, tree in self.each():
            names = set(names_bound(tree))
            for node in ast.walk(tree):
                if isinstance(node, ast.arg):
                    names.add(node.arg)
                elif isinstance(node, ast.Name) and isinstance(node.ctx, ast.Store):
                    names.add(node.id)
            self.assertEqual(names & set(dir(__import__("builtins"))), set())

    def test_the_interface_is_defined_in_its_file(self):
        for name, expected in DEFINED.items():
            tree = ast.parse((FOLDER / (name + ".py")).read_text(encoding="utf-8"))
            defined = {node.name for node in tree.body if isinstance(node, (ast.FunctionDef, ast.ClassDef))}
            self.assertEqual(expected - defined, set())


if __name__ == "__main__":
    unittest.main()
