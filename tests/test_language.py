"""The package keeps to the language that it is written in, as far as this can be seen."""

import ast
import builtins
import pathlib
import unittest

FOLDER = pathlib.Path(__file__).resolve().parent.parent / "turnedparts"
FILES = sorted(FOLDER.glob("*.py"))
ALLOWED = set(
    "len range enumerate zip min max sum abs sorted reversed int str bool bytes list tuple dict set frozenset "
    "isinstance ord repr any all divmod Exception ValueError TypeError KeyError IndexError LookupError super iter "
    "NotImplemented NotImplementedError StopIteration RuntimeError type".split())
DECORATORS = {"property", "staticmethod", "classmethod"}
METHODS = set(
    "append clear copy count endswith extend find get index insert isalnum isalpha isdigit islower isspace isupper "
    "items join keys ljust lower lstrip partition pop remove replace reverse rfind rjust rpartition rsplit rstrip "
    "setdefault split splitlines startswith strip update upper values zfill bit_length removeprefix removesuffix "
    "__init__".split())
BARRED = set(
    "register mro elements open input law version_info with_traceback add_note attrgetter breakpoint builtins compile "
    "copyright credits delattr dir eval exec exit gc getattr globals hasattr help id importlib license locals "
    "methodcaller os quit setattr type vars sys format".split())
STATEMENTS = (
    ast.Assign, ast.AugAssign, ast.If, ast.While, ast.For, ast.Return, ast.Break, ast.Continue, ast.Pass, ast.Raise,
    ast.Delete, ast.Try, ast.Expr, ast.FunctionDef, ast.ClassDef, ast.ImportFrom, ast.Assert,
    ast.Nonlocal)
NEVER = (ast.GeneratorExp, ast.Yield, ast.YieldFrom, ast.Set, ast.Await, ast.NamedExpr, ast.Match, ast.With, ast.Global)


def tree_of(path):
    return ast.parse(path.read_text(), str(path))


def nodes():
    for path in FILES:
        for node in ast.walk(tree_of(path)):
            yield path.name, node


def defined_in(tree):
    names = set()
    for node in tree.body:
        if isinstance(node, (ast.FunctionDef, ast.ClassDef)):
            names.add(node.name)
        elif isinstance(node, ast.Assign):
            names.add(node.targets[0].id)
    return names


def is_call_of_type(node):
    return isinstance(node, ast.Call) and isinstance(node.func, ast.Name) and node.func.id == "type"


class Language(unittest.TestCase):
    def test_files(self):
        self.assertEqual([path for path in FOLDER.iterdir() if path.suffix != ".py" and path.name != "__pycache__"], [])
        for path in FILES:
            text = path.read_text()
            lines = text.split("\n")
            self.assertLessEqual(len(lines), 399, path.name)
            self.assertLessEqual(max(map(len, lines)), 120, path.name)
            self.assertTrue(all(c == "\n" or " " <= c <= "~" for c in text), path.name)
            self.assertTrue(ast.get_docstring(tree_of(path)), path.name)
            for word in ("_wall", "_WallAttr", "dataclass", "overload", "contextmanager"):
                self.assertNotIn(word, text)

    def test_functions_are_small(self):
        for name, node in nodes():
            if isinstance(node, ast.FunctionDef):
                self.assertLessEqual(node.end_lineno - node.lineno + 1, 40, (name, node.name))
                for told in node.decorator_list:
                    self.assertIn(told.id, DECORATORS, (name, node.name))

    def test_top_of_files(self):
        for path in FILES:
            for at, node in enumerate(tree_of(path).body):
                if at == 0:
                    continue
                self.assertIsInstance(node, (ast.ImportFrom, ast.FunctionDef, ast.ClassDef, ast.Assign), path.name)
                if isinstance(node, ast.Assign):
                    self.assertEqual(len(node.targets), 1)
                    here = defined_in(tree_of(path))
                    for inner in ast.walk(node.value):
                        self.assertNotIsInstance(inner, (ast.Call, ast.ListComp, ast.DictComp), path.name)
                        if isinstance(inner, ast.Name):
                            self.assertTrue(inner.id in here or inner.id in ("True", "False", "None"))

    def test_imports(self):
        needs = {}
        for path in FILES:
            needs[path.stem] = set()
            for node in ast.walk(tree_of(path)):
                self.assertNotIsInstance(node, ast.Import, path.name)
                if isinstance(node, ast.ImportFrom):
                    self.assertEqual(node.level, 0)
                    package, _, stem = node.module.partition(".")
                    self.assertEqual(package, "turnedparts")
                    needs[path.stem].add(stem)
                    there = defined_in(tree_of(FOLDER / f"{stem}.py"))
                    for alias in node.names:
                        self.assertIsNone(alias.asname)
                        self.assertIn(alias.name, there, path.name)
        while needs:
            free = [stem for stem in needs if not needs[stem] & set(needs)]
            self.assertTrue(free, f"files import from each other: {sorted(needs)}")
            for stem in free:
                del needs[stem]

    def test_imports_are_used(self):
        for path in FILES:
            tree = tree_of(path)
            used = {node.id for node in ast.walk(tree) if isinstance(node, ast.Name)}
            for node in tree.body:
                if isinstance(node, ast.ImportFrom):
                    for alias in node.names:
                        self.assertIn(alias.name, used, path.name)

    def test_statements_and_expressions(self):
        for name, node in nodes():
            if isinstance(node, ast.stmt):
                self.assertIsInstance(node, STATEMENTS, (name, ast.dump(node)[:80]))
            self.assertNotIsInstance(node, NEVER, (name, ast.dump(node)[:80]))
            if isinstance(node, ast.Try):
                for inner in node.finalbody:
                    self.assertIsInstance(inner, ast.Assign)
                    self.assertIsInstance(inner.value, (ast.Name, ast.Attribute))
            if isinstance(node, ast.Compare):
                for op, right in zip(node.ops, node.comparators):
                    if isinstance(op, (ast.Is, ast.IsNot)) and not is_call_of_type(right):
                        self.assertIsInstance(right, ast.Constant, name)
            if isinstance(node, ast.BinOp):
                self.assertNotIsInstance(node.op, (ast.Div, ast.Mod, ast.Pow, ast.MatMult), name)
            if isinstance(node, ast.Constant):
                self.assertNotIsInstance(node.value, (float, complex), name)
                if isinstance(node.value, str):
                    self.assertNotIn("%", node.value)
            if isinstance(node, ast.SetComp):
                self.fail(name)
            if isinstance(node, ast.Subscript):
                for inner in ast.walk(node.slice):
                    self.assertNotIsInstance(inner, ast.Starred, (name, node.lineno))

    def test_names(self):
        classes = {node.name for _, node in nodes() if isinstance(node, ast.ClassDef)}
        taken = set(dir(builtins)) - {"_"}
        for name, node in nodes():
            if isinstance(node, ast.Name) and isinstance(node.ctx, ast.Store):
                self.assertFalse(node.id in taken or node.id in BARRED or node.id in classes, (name, node.id))
            if isinstance(node, ast.arg):
                self.assertFalse(node.arg in taken or node.arg in BARRED or node.arg in classes, (name, node.arg))
            if isinstance(node, (ast.FunctionDef, ast.ClassDef)):
                self.assertNotIn(node.name, BARRED)
            if isinstance(node, ast.Attribute):
                self.assertNotIn(node.attr, ("open", "input", "mro", "register", "format", "items_", "args"))
                if node.attr.startswith("__"):
                    self.assertEqual(node.attr, "__init__")

    def test_no_local_has_the_name_of_an_import_or_class(self):
        for path in FILES:
            tree = tree_of(path)
            top = {alias.name for node in tree.body if isinstance(node, ast.ImportFrom) for alias in node.names}
            top |= {node.name for node in tree.body if isinstance(node, ast.ClassDef)}
            for node in ast.walk(tree):
                if isinstance(node, ast.Name) and isinstance(node.ctx, ast.Store):
                    self.assertNotIn(node.id, top, path.name)
                if isinstance(node, ast.arg):
                    self.assertNotIn(node.arg, top, path.name)

    def test_builtins_and_methods(self):
        own = {node.name for _, node in nodes() if isinstance(node, ast.FunctionDef)}
        given = set(dir(builtins)) - {"_"}
        for name, node in nodes():
            if isinstance(node, ast.Name) and isinstance(node.ctx, ast.Load) and node.id in given:
                self.assertIn(node.id, ALLOWED | DECORATORS | {"None", "True", "False"}, name)
            if isinstance(node, ast.Call) and isinstance(node.func, ast.Attribute):
                self.assertIn(node.func.attr, METHODS | own, name)

    def test_own_attributes_are_free_names(self):
        barred = {n for value in ("", 0, [], {}, set(), b"") for n in dir(value) if not n.startswith("__")}
        for name, node in nodes():
            if isinstance(node, ast.ClassDef):
                for inner in node.body:
                    if isinstance(inner, ast.FunctionDef):
                        self.assertNotIn(inner.name, barred, (name, node.name))
            if isinstance(node, ast.Attribute) and isinstance(node.ctx, ast.Store):
                self.assertNotIn(node.attr, barred, name)
                self.assertIsInstance(node.value, ast.Name, name)

    def test_interface(self):
        listed = {
            "errors": ["PartsError", "BadProgram", "BadText", "BadUse", "BadWorld", "Ring", "TooLarge", "Handed", "NotAlike", "NoModule",
                       "BadNames", "Fixed", "Caught", "BadPlace", "NotPlain", "BadPlan", "Gone"],
            "programs": ["check_program", "is_program"], "shapes": ["is_expr"], "reading": ["read_module"],
            "writing": ["write_module", "write_expr"], "worlds": ["World"], "outside": ["uses", "seen"],
            "alikes": ["Alike", "Unlike", "judge", "tree"], "leaving": ["Lean", "lean"],
            "tellings": ["kinds_raised", "is_silent", "hangs_on", "never_done"],
            "houses": ["House", "watcher"], "binding": ["bindings"], "renaming": ["variables", "renamed", "Repairs", "repairs"],
            "extracting": ["extract", "put_back"], "signatures": ["Change", "change"],
            "turning": ["lazy", "eager", "unrolled", "branched", "chosen", "taken_out", "put_in", "exchanged", "boxed"],
            "steps": ["Step", "Rename", "Extract", "Back", "Exchange", "Row"],
            "merging": ["Together", "Against", "commute", "Merged", "Clash", "merged"],
        }
        for stem, names in listed.items():
            there = defined_in(tree_of(FOLDER / f"{stem}.py"))
            self.assertLessEqual(set(names), there, stem)

    def test_methods_stand_in_their_classes(self):
        listed = {"worlds": {"World": ["__eq__"]}, "alikes": {"Alike": ["shows", "__eq__", "__bool__"], "Unlike": ["shows", "__eq__", "__bool__"]},
                  "leaving": {"Lean": ["shows", "__eq__"]},
                  "houses": {"House": ["of_texts", "can_be", "contents", "be_strict", "__len__", "__iter__", "__contains__", "__eq__", "both", "__call__",
                                       "put", "put_all", "drop", "trial", "keep", "each_statement", "text"]},
                  "renaming": {"Repairs": ["shows", "__eq__"]}, "signatures": {"Change": ["__eq__"]},
                  "steps": {**{name: ["done", "__call__", "follow", "carried", "__eq__", "__add__"] for name in ("Step", "Rename", "Extract", "Back", "Exchange")},
                            "Row": ["__len__", "__eq__", "__call__"]},
                  "merging": {**{name: ["shows", "__eq__", "__bool__"] for name in ("Together", "Against")},
                              **{name: ["__eq__", "__bool__"] for name in ("Merged", "Clash")}}}
        for stem, classes in listed.items():
            for node in tree_of(FOLDER / f"{stem}.py").body:
                if isinstance(node, ast.ClassDef):
                    there = {inner.name for inner in node.body if isinstance(inner, ast.FunctionDef)}
                    self.assertLessEqual(set(classes.get(node.name, [])), there, node.name)
                    self.assertLessEqual(set(classes), defined_in(tree_of(FOLDER / f"{stem}.py")))


if __name__ == "__main__":
    unittest.main()
