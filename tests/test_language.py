"""The rules of the language that can be seen in the files of the package."""
import ast
import builtins
import re
import unittest
import warnings
from pathlib import Path

ROOT = Path(__file__).resolve().parent.parent
PACKAGE = ROOT / "zeroorone"
LIBRARY = {"heapq": {"heappush", "heappop", "heapify"}, "math": {"gcd", "lcm", "isqrt", "comb", "perm", "factorial"},
           "itertools": {"combinations", "permutations", "product"}}
NODES = """Module FunctionDef ClassDef Return Assign AugAssign For While If Raise Expr Pass Break Continue ImportFrom
    alias arguments arg BoolOp And Or BinOp Add Sub Mult FloorDiv Mod Pow UnaryOp USub Not IfExp Dict Set ListComp
    SetComp DictComp Delete Del BitOr BitAnd LShift RShift Compare Eq NotEq Lt LtE Gt GtE Is IsNot In NotIn Call keyword
    Constant Attribute Subscript Slice Name List Tuple Lambda Load Store Starred JoinedStr FormattedValue Try
    ExceptHandler comprehension""".split()
BUILTINS = set("""len range enumerate zip min max sum abs sorted reversed int str bool list tuple dict set isinstance
    ord repr any all divmod Exception ValueError TypeError KeyError IndexError LookupError ZeroDivisionError
    ArithmeticError OverflowError RuntimeError""".split())
METHODS = set("""append clear copy count endswith extend find get index insert isalnum isalpha isdigit islower isspace
    isupper items join keys ljust lower lstrip partition pop remove replace reverse rfind rjust rpartition rsplit rstrip
    setdefault split splitlines startswith strip update upper values zfill bit_length""".split())
DOUBLE = {"__init__", "__contains__", "__len__", "__eq__", "__str__"}
OWN_ERRORS = {"PaperError", "InvalidNumber", "UnknownName", "NothingToUndo", "TooMany", "Refused"}
CHANGES = set("append clear extend insert pop remove reverse setdefault update".split())
LAZY = {"zip", "enumerate", "reversed", "range"}
VIEWS = {"items", "keys", "values"}
TAKERS = {"list", "tuple", "dict", "sorted", "sum", "any", "all", "enumerate", "zip"}
BARRED = set("""register mro elements open input law version_info with_traceback add_note attrgetter breakpoint
    compile copyright credits delattr dir eval exec exit gc getattr globals hasattr help id importlib license locals
    methodcaller os quit setattr super type vars sys typing enum dataclass overload namedtuple""".split())


def files():
    return sorted(path for path in PACKAGE.rglob("*.py"))


def module_of(path):
    parts = list(path.relative_to(ROOT).with_suffix("").parts)
    return ".".join(parts[:-1] if parts[-1] == "__init__" else parts)


def trees():
    return [(path, ast.parse(path.read_text())) for path in files()]


def top_names(tree):
    """The names that a file defines itself at module level, in their sequence."""
    found = []
    for node in tree.body:
        if isinstance(node, (ast.FunctionDef, ast.ClassDef)):
            found.append(node.name)
        elif isinstance(node, ast.Assign):
            found += [target.id for target in node.targets]
    return found


def imported(tree):
    return [alias.name for node in tree.body if isinstance(node, ast.ImportFrom) for alias in node.names]


def called(node):
    return node.func.id if isinstance(node, ast.Call) and isinstance(node.func, ast.Name) else None


def is_lazy(node):
    if called(node) in LAZY:
        return True
    return isinstance(node, ast.Call) and isinstance(node.func, ast.Attribute) and node.func.attr in VIEWS


def parents(tree):
    return {child: node for node in ast.walk(tree) for child in ast.iter_child_nodes(node)}


class Language(unittest.TestCase):
    def each(self, kinds):
        for path, tree in trees():
            for node in ast.walk(tree):
                if isinstance(node, kinds):
                    yield f"{path.relative_to(ROOT)}:{getattr(node, 'lineno', 0)}", node, path

    def test_files(self):
        for path in PACKAGE.rglob("*"):
            if "__pycache__" not in path.parts:
                self.assertTrue(path.is_dir() or re.fullmatch(r"[a-z_0-9]+\.py", path.name), path)
                self.assertFalse(path.is_file() and path.with_suffix("").is_dir(), path)
        self.assertLessEqual(len(files()), 100)

    def test_sizes_and_characters(self):
        for path in files():
            text = path.read_text()
            lines = text.split("\n")
            self.assertLessEqual(len(lines) - 1, 399, path)
            self.assertTrue(all(len(line) <= 120 and line == line.rstrip() for line in lines), path)
            self.assertTrue(all(" " <= letter <= "~" or letter == "\n" for letter in text), path)
            self.assertTrue(text.endswith("\n"), path)
            with warnings.catch_warnings():
                warnings.simplefilter("error")
                compile(text, str(path), "exec")
        for place, node, _ in self.each(ast.FunctionDef):
            self.assertLessEqual(node.end_lineno - node.lineno + 1, 40, place)

    def test_plain_nodes_alone(self):
        for place, node, _ in self.each(ast.AST):
            self.assertIn(type(node).__name__, NODES, place)

    def test_classes(self):
        plain, decorated, attributes = {}, {}, {}
        for place, node, path in self.each(ast.ClassDef):
            names = [method.name for method in node.body if isinstance(method, ast.FunctionDef)]
            self.assertEqual(len(names), len(set(names)), place)
            self.assertLessEqual({name for name in names if name.startswith("__")}, DOUBLE, place)
            stored = {part.attr for part in ast.walk(node)
                      if isinstance(part, ast.Attribute) and isinstance(part.ctx, ast.Store)}
            self.assertFalse(stored & set(names), place)
            attributes[node.name] = stored
            for method in [one for one in node.body if isinstance(one, ast.FunctionDef)]:
                kinds = [decorator.id for decorator in method.decorator_list]
                self.assertIn(kinds, ([], ["property"], ["classmethod"]), place)
                self.assertEqual(method.args.args[0].arg, "cls" if kinds == ["classmethod"] else "self", place)
                (decorated if kinds else plain).setdefault(method.name, []).append(node.name)
                if method.name in DOUBLE - {"__init__"} or kinds == ["property"]:
                    self.assertIsInstance(method.body[-1], ast.Return, place)
                    self.assertFalse([part for part in ast.walk(method) if isinstance(part, (ast.Assign, ast.AugAssign))])
        # Names with decorators are names of nothing else.
        self.assertFalse(set(decorated) & (set(plain) | METHODS))
        self.assertFalse(set(decorated) & {name for names in attributes.values() for name in names})

    def test_decorators_and_stars(self):
        for path, tree in trees():
            methods = [one for node in tree.body if isinstance(node, ast.ClassDef) for one in node.body]
            for node in ast.walk(tree):
                if isinstance(node, ast.FunctionDef):
                    place = f"{path}:{node.lineno}"
                    self.assertTrue(node in methods or node.decorator_list == [], place)
                    self.assertTrue(node in methods or not node.args.kwonlyargs, place)
                    self.assertIsNone(node.args.vararg or node.args.kwarg, place)
        for place, node, _ in self.each(ast.Starred):
            self.assertTrue(isinstance(node.value, ast.Name) and isinstance(node.ctx, ast.Load), place)
        for place, node, _ in self.each(ast.JoinedStr):
            inside = [part for value in node.values for part in ast.walk(value)]
            self.assertFalse([part for part in inside if isinstance(part, ast.JoinedStr)], place)

    def test_handlers_catch_own_errors(self):
        for place, node, _ in self.each(ast.Try):
            self.assertFalse(node.finalbody or node.orelse, place)
            seen = []
            for handler in node.handlers:
                told = handler.type.elts if isinstance(handler.type, ast.Tuple) else [handler.type]
                self.assertLessEqual({name.id for name in told}, OWN_ERRORS, place)
                seen.append(handler.name)
            named = [name for name in seen if name is not None]
            self.assertEqual(len(named), len(set(named)), place)

    def test_the_checker_uses_no_other_module(self):
        # "It and the files beside it ... use no other module of the package but `zeroorone.errors`."
        for path, tree in trees():
            if path.parent == PACKAGE / "paper":
                for node in ast.walk(tree):
                    if isinstance(node, ast.ImportFrom) and node.module.startswith("zeroorone"):
                        self.assertTrue(node.module == "zeroorone.errors" or node.module.startswith("zeroorone.paper."))

    def test_module_level(self):
        for path, tree in trees():
            for index, node in enumerate(tree.body):
                docstring = index == 0 and isinstance(node, ast.Expr) and isinstance(node.value, ast.Constant)
                plain = isinstance(node, (ast.FunctionDef, ast.ClassDef, ast.ImportFrom, ast.Assign))
                self.assertTrue(docstring or plain, f"{path}:{node.lineno}")
                if isinstance(node, ast.Assign):
                    inside = {type(part).__name__ for part in ast.walk(node.value)}
                    plain = {"Constant", "Tuple", "Load", "BinOp", "Pow", "UnaryOp", "USub", "Dict", "Sub", "Name"}
                    self.assertLessEqual(inside, plain)
                    above = [one.name for one in tree.body[:index] if isinstance(one, ast.FunctionDef)]
                    for part in ast.walk(node.value):
                        self.assertTrue(not isinstance(part, ast.Name) or part.id in above, f"{path}:{node.lineno}")
                        if isinstance(part, (ast.Tuple, ast.Dict)) and part is not node.value:
                            self.assertIsInstance(part, ast.Tuple)
                    self.assertTrue(len(node.targets) == 1 and isinstance(node.targets[0], ast.Name))
            names = top_names(tree) + imported(tree)
            self.assertEqual(len(names), len(set(names)), path)

    def test_imports(self):
        defined = {module_of(path): top_names(tree) for path, tree in trees()}
        reached = {}
        for path, tree in trees():
            module = module_of(path)
            reached[module] = set()
            seen_other = False
            for node in tree.body:
                if isinstance(node, ast.ImportFrom):
                    self.assertTrue(node.level == 0 and not seen_other, path)
                    self.assertTrue(all(alias.asname is None for alias in node.names), path)
                    allowed = LIBRARY.get(node.module, defined.get(node.module, []))
                    for alias in node.names:
                        self.assertIn(alias.name, allowed, path)
                    if node.module in defined:
                        reached[module].add(node.module)
                        reached[module].update(m for m in defined if node.module.startswith(m + "."))
                elif not isinstance(node, ast.Expr):
                    seen_other = True
            loads = {node.id for node in ast.walk(tree) if isinstance(node, ast.Name)}
            for name in imported(tree):
                self.assertIn(name, loads, f"{path} does not use {name}")
        for _ in defined:
            for module in defined:
                reached[module] |= {further for one in reached[module] for further in reached[one]}
                self.assertNotIn(module, reached[module])

    def test_names(self):
        for path, tree in trees():
            outer = set(imported(tree)) | {node.name for node in tree.body if isinstance(node, ast.ClassDef)}
            known = outer | set(top_names(tree))
            for node in ast.walk(tree):
                place = f"{path}:{getattr(node, 'lineno', 0)}"
                bound = None
                if isinstance(node, ast.Name) and isinstance(node.ctx, ast.Store):
                    bound = node.id
                elif isinstance(node, ast.arg):
                    bound = node.arg
                if bound is not None:
                    self.assertNotIn(bound, outer, place)
                if isinstance(node, (ast.FunctionDef, ast.ClassDef)):
                    bound = node.name
                if bound is not None:
                    self.assertFalse(bound not in DOUBLE and hasattr(builtins, bound), place)
                    self.assertNotIn(bound, BARRED, place)
                    self.assertTrue(re.fullmatch(r"_?|_?[A-Za-z][A-Za-z0-9_]*", bound) or bound in DOUBLE, place)
                if isinstance(node, ast.FunctionDef):
                    self.check_loads(node, known, place)

    def check_loads(self, function, known, place):
        names = [node for node in ast.walk(function) if isinstance(node, ast.Name)]
        local = {node.id for node in names if isinstance(node.ctx, ast.Store)}
        local |= {node.arg for node in ast.walk(function) if isinstance(node, ast.arg)}
        local |= {node.name for node in ast.walk(function) if isinstance(node, ast.ExceptHandler)}
        known = known | {"property", "classmethod"}
        for node in names:
            if isinstance(node.ctx, ast.Load):
                self.assertNotEqual(node.id, "_", place)
                self.assertTrue(node.id in local | known or node.id in BUILTINS, f"{place} {node.id}")

    def test_words(self):
        for place, node, _ in self.each(ast.Constant):
            if isinstance(node.value, str):
                self.assertFalse("%" in node.value or node.value.endswith(("._", ".__")), place)
            self.assertNotIsInstance(node.value, (float, complex), place)
        for place, node, _ in self.each(ast.Attribute):
            self.assertFalse(node.attr in BARRED or node.attr.startswith("__"), place)

    def test_powers_and_identity(self):
        for place, node, _ in self.each(ast.BinOp):
            if isinstance(node.op, ast.Pow):
                self.assertTrue(isinstance(node.right, ast.Constant) and node.right.value in range(65), place)
        for place, node, _ in self.each(ast.Compare):
            for sign, right in zip(node.ops, node.comparators):
                if isinstance(sign, (ast.Is, ast.IsNot)):
                    self.assertTrue(isinstance(right, ast.Constant) and right.value in (None, True, False), place)

    def test_calls(self):
        own = {method.name for _, node, _ in self.each(ast.ClassDef) for method in node.body
               if isinstance(method, ast.FunctionDef)}
        # L26: methods may be called like those of builtin values.
        self.assertLessEqual(own & METHODS, {"join"})
        for place, node, path in self.each(ast.Call):
            if isinstance(node.func, ast.Attribute):
                self.assertIn(node.func.attr, METHODS | own, place)
                self.assertEqual(node.keywords, [], place)
            else:
                self.assertIsInstance(node.func, ast.Name, place)
            name = called(node)
            if hasattr(builtins, name or "_"):
                allowed = {"sorted": {"key", "reverse"}, "min": {"key", "default"}, "max": {"key", "default"}}
                self.assertLessEqual({word.arg for word in node.keywords}, allowed.get(name, set()), place)
            if name in {"any", "all", "sum", "min", "max"} and len(node.args) == 1:
                self.assertIsInstance(node.args[0], (ast.ListComp, ast.Call, ast.Name, ast.Subscript), place)

    def test_what_is_iterated_at_once(self):
        for path, tree in trees():
            above = parents(tree)
            for node in ast.walk(tree):
                place = f"{path}:{getattr(node, 'lineno', 0)}"
                up = above.get(node)
                if is_lazy(node):
                    looped = isinstance(up, (ast.For, ast.comprehension)) and up.iter is node
                    taken = called(up) in TAKERS and up.args[0] is node
                    inside = called(node) == "range" and called(up) in {"reversed", "combinations", "permutations"}
                    self.assertTrue(looped or taken or inside, place)
                if called(node) in {"combinations", "permutations", "product"}:
                    looped = isinstance(up, (ast.For, ast.comprehension)) and up.iter is node
                    self.assertTrue(looped or called(up) in {"list", "tuple"}, place)
                if isinstance(node, (ast.Set, ast.SetComp)) or called(node) == "set":
                    self.assertIn(called(up), {"len", "sorted"}, place)

    def test_loops_do_not_change_what_they_iterate_over(self):
        for place, node, _ in self.each(ast.For):
            over = {part.id for part in ast.walk(node.iter) if isinstance(part, ast.Name)}
            if called(node.iter) == "range" or called(node.iter) == "reversed" and called(node.iter.args[0]) == "range":
                continue
            for part in [inner for statement in node.body for inner in ast.walk(statement)]:
                if isinstance(part, ast.Call) and isinstance(part.func, ast.Attribute) and part.func.attr in CHANGES:
                    changed = part.func.value
                elif isinstance(part, ast.Subscript) and isinstance(part.ctx, ast.Store):
                    changed = part.value
                else:
                    continue
                while isinstance(changed, (ast.Subscript, ast.Attribute)):
                    changed = changed.value
                self.assertNotIn(getattr(changed, "id", None), over, place)

    def test_lambdas(self):
        lines = [place for place, _, _ in self.each(ast.Lambda)]
        self.assertEqual(len(lines), len(set(lines)))
