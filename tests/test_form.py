"""The form of the code, as far as it is plain to see: sizes, signs, imports and statements."""

import ast
import builtins
import pathlib
import unittest

PACKAGE = pathlib.Path(__file__).resolve().parent.parent / "renamedhorn"
FILES = sorted(PACKAGE.glob("*.py"))
LIBRARY = {
    "heapq": {"heappush", "heappop", "heapify", "heapreplace", "heappushpop"},
    "math": {"gcd", "lcm", "isqrt", "comb", "perm", "factorial"},
    "itertools": {
        "product", "combinations", "permutations", "chain", "accumulate", "pairwise", "islice", "zip_longest",
    },
    "collections": {"defaultdict"},
}
DECORATORS = {"property", "staticmethod", "classmethod"}
BARRED = (
    ast.Import, ast.Global, ast.AsyncFunctionDef, ast.Await, ast.Div, ast.GeneratorExp, ast.AugAssign, ast.AnnAssign,
    ast.Lambda,
)
BUILTINS = set(
    "len range enumerate zip min max sum abs sorted reversed int str bool list tuple dict set isinstance ord repr"
    " any all divmod iter super property staticmethod classmethod ValueError TypeError NotImplemented".split()
)
PLAIN_NUMBERS = {"int", "len", "ord", "abs"}
LOUD = {"__init__", "__call__", "__setitem__", "__iadd__", "__isub__", "__ixor__"}
NEW = {"list", "dict", "sorted"}
OWN_CLASSES = {
    node.name
    for path in FILES
    for node in ast.parse(path.read_text(encoding="utf-8")).body
    if isinstance(node, ast.ClassDef)
}
CHANGERS = {"append", "clear", "extend", "insert", "pop", "remove", "reverse", "setdefault", "sort", "update"}
VIEWS = {"items", "keys", "values"}
COMPREHENSIONS = (ast.ListComp, ast.SetComp, ast.DictComp, ast.GeneratorExp)


def plain_numbers(node):
    """Tell whether a node is plainly a number, or a list of such."""
    if isinstance(node, ast.ListComp):
        return plain_numbers(node.elt)
    if isinstance(node, ast.Call):
        return isinstance(node.func, ast.Name) and node.func.id in PLAIN_NUMBERS
    return isinstance(node, ast.Constant) and isinstance(node.value, int)


def bound_names(tree):
    """All names that a file gives a meaning by assignments, loops, parameters, functions and classes."""
    for node in ast.walk(tree):
        if isinstance(node, ast.Name) and isinstance(node.ctx, ast.Store):
            yield node.id
        if isinstance(node, ast.arg):
            yield node.arg
        if isinstance(node, (ast.FunctionDef, ast.ClassDef)):
            yield node.name


def taken_names(tree):
    """The names of the classes and the imports of a file."""
    for node in tree.body:
        if isinstance(node, ast.ClassDef):
            yield node.name
        if isinstance(node, ast.ImportFrom):
            yield from [alias.name for alias in node.names]


def local_names(tree):
    """The names of parameters and of variables that functions assign."""
    for function in ast.walk(tree):
        if isinstance(function, ast.FunctionDef):
            for node in ast.walk(function):
                if isinstance(node, ast.Name) and isinstance(node.ctx, ast.Store):
                    yield node.id
                if isinstance(node, ast.arg):
                    yield node.arg


def place(node):
    """The text of a name or an attribute, or None for anything else."""
    return ast.unparse(node) if isinstance(node, (ast.Name, ast.Attribute)) else None


def walked(node):
    """The places whose contents a loop over the node goes through."""
    if isinstance(node, ast.Call):
        if isinstance(node.func, ast.Attribute) and node.func.attr in VIEWS:
            return walked(node.func.value)
        if isinstance(node.func, ast.Name) and node.func.id in ("enumerate", "zip", "reversed"):
            return {found for part in node.args for found in walked(part)}
        return set()
    if isinstance(node, ast.IfExp):
        return walked(node.body) | walked(node.orelse)
    if isinstance(node, ast.BoolOp):
        return {found for part in node.values for found in walked(part)}
    return {place(node)} - {None}


def changed(node):
    """The places whose contents the node itself changes."""
    if isinstance(node, ast.Call) and isinstance(node.func, ast.Attribute) and node.func.attr in CHANGERS:
        return {place(node.func.value)}
    if isinstance(node, ast.AugAssign):
        return {place(node.target), place(getattr(node.target, "value", None))}
    if isinstance(node, (ast.Assign, ast.Delete)):
        return {place(target.value) for target in node.targets if isinstance(target, ast.Subscript)}
    return set()


def namesakes(function, places):
    """The places of a function that may be the same object as one of the places, by plain assignments."""
    pairs = [
        (place(target), place(node.value))
        for node in ast.walk(function)
        if isinstance(node, ast.Assign)
        for target in node.targets
        if place(target) and place(node.value)
    ]
    found = set(places)
    while any((one in found) != (other in found) for one, other in pairs):
        found |= {name for pair in pairs if found & set(pair) for name in pair}
    return found


def changed_while_walked(function):
    """The lines of a function at which a loop changes what it goes through, also by another name."""
    loops = [(node.iter, node.body, node) for node in ast.walk(function) if isinstance(node, ast.For)]
    loops += [
        (part.iter, [node], node)
        for node in ast.walk(function)
        if isinstance(node, COMPREHENSIONS)
        for part in node.generators
    ]
    return [
        inner.lineno
        for over, body, node in loops
        for row in body
        for inner in ast.walk(row)
        if (changed(inner) - {None}) & namesakes(function, walked(over))
    ]


def own_functions():
    """All functions and methods of the package by their names; a class is there by its name as well."""
    found = {}
    for path in FILES:
        for node in ast.walk(ast.parse(path.read_text(encoding="utf-8"))):
            if isinstance(node, ast.FunctionDef):
                found.setdefault(node.name, []).append(node)
            if isinstance(node, ast.ClassDef):
                made = [row for row in node.body if isinstance(row, ast.FunctionDef) and row.name == "__init__"]
                found.setdefault(node.name, []).extend(made)
    return found


def is_quiet(function):
    """Tell whether a function is an operator or a property that changes nothing."""
    if function.name.startswith("__") and function.name not in LOUD:
        return True
    return "property" in [ast.unparse(over) for over in function.decorator_list]


def called_names(function):
    """The names of the functions and methods that a function calls."""
    calls = [node.func for node in ast.walk(function) if isinstance(node, ast.Call)]
    return [func.id if isinstance(func, ast.Name) else func.attr for func in calls]


def quiet_functions():
    """The operators, the properties and all functions and methods that they call, by name."""
    known = own_functions()
    found = [function for rows in known.values() for function in rows if is_quiet(function)]
    done = 0
    while done < len(found):
        for name in called_names(found[done]):
            found.extend([function for function in known.get(name, []) if function not in found])
        done += 1
    return found


def made_here(function):
    """The local names that a function assigns only new lists and dicts, and those of new objects."""
    values = {}
    for node in ast.walk(function):
        if isinstance(node, ast.Assign):
            for target in node.targets:
                values.setdefault(place(target), []).append(node.value)
    return [
        name
        for name, rows in values.items()
        if all(
            isinstance(row, (ast.List, ast.Dict, ast.ListComp, ast.DictComp))
            or isinstance(row, ast.Call) and isinstance(row.func, ast.Name) and row.func.id in NEW | OWN_CLASSES
            for row in rows
        )
    ]


def kinds_of_names():
    """The names of properties, of static and class methods, of plain methods, of attributes and of generators."""
    found = {kind: set() for kind in ("property", "static", "plain", "attribute", "generator", "function")}
    for path in FILES:
        tree = ast.parse(path.read_text(encoding="utf-8"))
        found["function"] |= {row.name for row in tree.body if isinstance(row, ast.FunctionDef)}
        for node in ast.walk(tree):
            if isinstance(node, ast.Attribute) and isinstance(node.ctx, ast.Store):
                found["attribute"].add(node.attr)
            if isinstance(node, ast.FunctionDef) and any(isinstance(part, ast.Yield) for part in ast.walk(node)):
                found["generator"].add(node.name)
            if isinstance(node, ast.ClassDef):
                for row in [row for row in node.body if isinstance(row, ast.FunctionDef)]:
                    words = [ast.unparse(over).split(".")[-1] for over in row.decorator_list]
                    kind = "property" if set(words) & {"property", "setter"} else "static" if words else "plain"
                    found[kind].add(row.name)
    return found


def imported_files():
    """For each file of the package the files from which it imports."""
    return {
        path.stem: {
            node.module.removeprefix("renamedhorn.")
            for node in ast.parse(path.read_text(encoding="utf-8")).body
            if isinstance(node, ast.ImportFrom) and node.module.startswith("renamedhorn.")
        }
        for path in FILES
    }


class FormTest(unittest.TestCase):
    def test_the_folder_holds_only_files_of_the_package(self):
        found = [path.name for path in PACKAGE.iterdir() if path.name != "__pycache__"]
        self.assertEqual(sorted(found), sorted([path.name for path in FILES]))
        self.assertIn("__init__.py", found)

    def test_signs_and_lines(self):
        for path in FILES:
            lines = path.read_text(encoding="utf-8").split("\n")
            self.assertLessEqual(len(lines), 400, path.name)
            for at, line in enumerate(lines, start=1):
                with self.subTest(file=path.name, line=at):
                    self.assertLessEqual(len(line), 120)
                    self.assertTrue(all(" " <= sign <= "~" for sign in line))

    def test_nodes(self):
        for path in FILES:
            for node in ast.walk(ast.parse(path.read_text(encoding="utf-8"))):
                with self.subTest(file=path.name, line=getattr(node, "lineno", 0)):
                    self.look_at(node)

    def look_at(self, node):
        """Assert of one node what can be told from it alone."""
        self.assertNotIsInstance(node, BARRED)
        if isinstance(node, ast.ImportFrom):
            self.look_at_import(node)
        if isinstance(node, ast.FunctionDef):
            self.assertLessEqual(node.end_lineno - node.lineno + 1, 40)
            for over in node.decorator_list:
                word = over.attr if isinstance(over, ast.Attribute) else over.id
                self.assertIn(word, DECORATORS | {"setter"})
        if isinstance(node, ast.Starred):
            self.assertIsInstance(node.value, (ast.Name, ast.Attribute))
        if isinstance(node, ast.Constant):
            self.assertNotIsInstance(node.value, float)
            self.assertNotIn("%", str(node.value))

    def test_builtins(self):
        for path in FILES:
            tree = ast.parse(path.read_text(encoding="utf-8"))
            for name in bound_names(tree):
                self.assertNotIn(name, dir(builtins), path.name)
            for node in ast.walk(tree):
                if isinstance(node, ast.Name) and node.id in dir(builtins):
                    self.assertIn(node.id, BUILTINS, path.name)
                if isinstance(node, ast.Call) and isinstance(node.func, ast.Name):
                    with self.subTest(file=path.name, line=node.lineno):
                        self.look_at_call(node.func.id, node.args)

    def look_at_call(self, word, args):
        """Assert that what has an order of its own is not sorted or compared by a builtin."""
        if word == "sorted":
            self.assertEqual([ast.unparse(part.func) for part in args], ["set"])
        if word in ("min", "max"):
            self.assertTrue(any(plain_numbers(part) for part in args))

    def test_locals_do_not_hide_classes_and_imports(self):
        for path in FILES:
            tree = ast.parse(path.read_text(encoding="utf-8"))
            self.assertEqual(set(local_names(tree)) & set(taken_names(tree)), set(), path.name)

    def test_operators_and_properties_change_nothing(self):
        quiet = quiet_functions()
        self.assertGreater(len(quiet), 60)
        for function in quiet:
            made = made_here(function) + (["self"] if function.name == "__init__" else [])
            with self.subTest(function=function.name, line=function.lineno):
                for node in ast.walk(function):
                    self.assertNotIsInstance(node, (ast.Yield, ast.YieldFrom))
                    for name in changed(node) - {None}:
                        self.assertIn(name, made)
                    if isinstance(node, ast.Attribute) and isinstance(node.ctx, ast.Store):
                        self.assertIn(place(node.value), made)
                self.assertEqual(set(called_names(function)) & set(local_names(function)), set())

    def test_no_loop_changes_what_it_walks(self):
        for path in FILES:
            for node in ast.walk(ast.parse(path.read_text(encoding="utf-8"))):
                if isinstance(node, ast.FunctionDef):
                    with self.subTest(file=path.name, function=node.name):
                        self.assertEqual(changed_while_walked(node), [])

    def test_what_the_test_of_loops_sees(self):
        for text in (
            "for x in xs:\n  xs.append(x)",
            "for x in xs:\n  ys.append(x)\nxs = ys",
            "zs = xs\nfor x in enumerate(xs):\n  for y in x:\n    zs[0] = y",
            "for x in d.items():\n  del d[x]",
            "for x in a or b:\n  b.pop()",
            "ys = [xs.pop() for x in xs]",
        ):
            function = ast.parse("def f(xs):\n  " + text.replace("\n", "\n  "))
            self.assertNotEqual(changed_while_walked(function), [], text)
        for text in ("for x in xs:\n  ys.append(x)", "for x in list(xs):\n  xs.pop()", "for x in xs:\n  xs = [x]"):
            function = ast.parse("def f(xs):\n  " + text.replace("\n", "\n  "))
            self.assertEqual(changed_while_walked(function), [], text)

    def test_names_that_mean_one_thing_alone(self):
        found = kinds_of_names()
        self.assertEqual(found["property"] & (found["plain"] | found["static"]), set())
        # This one has a setter, so it is assigned as an attribute is.
        self.assertEqual(found["property"] & found["attribute"], {"strict"})
        self.assertEqual(found["static"] & (found["plain"] | found["attribute"]), set())
        self.assertEqual(found["plain"] & found["attribute"], set())
        self.assertEqual(found["generator"], {"walk", "following", "models"})
        self.assertEqual(found["generator"] & (found["property"] | found["static"] | found["attribute"]), set())
        for path in FILES:
            names = set(local_names(ast.parse(path.read_text(encoding="utf-8"))))
            self.assertEqual(names & found["generator"], set(), path.name)

    def test_no_two_files_import_from_each_other(self):
        left = imported_files()
        while left:
            free = [file for file, others in left.items() if not others & set(left)]
            self.assertNotEqual(free, [], left)
            left = {file: others for file, others in left.items() if file not in free}

    def look_at_import(self, node):
        """Assert that an import names a file of the package or a permitted word of the library."""
        self.assertEqual(node.level, 0)
        words = {alias.name for alias in node.names}
        if node.module in LIBRARY:
            self.assertLessEqual(words, LIBRARY[node.module])
        else:
            self.assertIn(node.module, ["renamedhorn." + path.stem for path in FILES])
            self.assertNotIn("*", words)
