"""The package keeps to its small part of Python.

Looked at, some only in part: L1 to L8, L10, L12 to L28. Not looked at, so to be kept by eye: L9, L11, of L19 what stands
in a `try`, and of L23 that nothing walked is changed under another name.
"""

import ast
import builtins
import re
import unittest
from functools import lru_cache
from pathlib import Path

PACKAGE = Path(__file__).resolve().parent.parent / "onceroad"
FILES = sorted(PACKAGE.glob("*.py"))

NODES = """Module FunctionDef ClassDef Return Assign AugAssign For While If Raise Try Expr Pass Break Continue
    ImportFrom alias arguments arg keyword Constant Name Attribute Subscript Slice List Tuple Dict Call Compare
    BoolOp BinOp UnaryOp IfExp ListComp comprehension JoinedStr FormattedValue Lambda ExceptHandler Load Store
    And Or Not Add Sub Mult FloorDiv Mod Pow BitAnd BitOr BitXor LShift RShift Invert USub UAdd
    Eq NotEq Lt LtE Gt GtE Is IsNot In NotIn""".split()
OWN_NAMES = """len range enumerate zip min max sum abs sorted reversed int str bool list tuple dict set frozenset
    isinstance ord repr any all divmod Exception ValueError TypeError KeyError IndexError LookupError
    ZeroDivisionError ArithmeticError OverflowError RuntimeError NotImplementedError AttributeError
    StopIteration""".split()
METHODS = """append clear copy count endswith extend find get index insert isalnum isalpha isdigit islower isspace
    isupper items join keys ljust lower lstrip partition pop remove replace reverse rfind rjust rpartition rsplit
    rstrip setdefault split splitlines startswith strip update upper values zfill bit_length""".split()
WORDS = """type typing typing_extensions enum Enum IntEnum StrEnum Flag IntFlag Generic Protocol ABC ABCMeta
    namedtuple NamedTuple TypedDict TYPE_CHECKING abstractmethod""".split()
PARTS = ["dataclass", "overload", "contextmanager"]
UNDERSCORED = ["__init__", "__eq__", "__repr__", "__str__", "__len__"]
OTHER_METHODS = ["add", "discard"]
VALUES = "count index title find get join lower upper split strip copy add".split()
KEYWORDS = {"sorted": ["key", "reverse"], "min": ["key", "default"], "max": ["key", "default"], "sum": ["start"],
            "enumerate": ["start"], "zip": ["strict"]}
WALKED = ["zip", "enumerate", "reversed", "range", "items", "keys", "values"]
WALKERS = "list tuple dict sorted sum any all enumerate zip min max join".split()
CHANGES = "append clear extend insert pop remove reverse setdefault update".split()
NOT_AS_NAMES = """attrgetter breakpoint builtins compile copyright credits delattr dir eval exec exit gc getattr globals
    hasattr help id importlib license locals methodcaller os quit setattr super type vars sys __name__""".split()
UNUSED = ["register", "mro", "elements", "open", "input", "version_info", "with_traceback", "add_note"]


@lru_cache
def trees():
    return {file.stem: ast.parse(file.read_text("utf-8")) for file in FILES}


def nodes(kinds):
    return [(stem, node) for stem, tree in trees().items() for node in ast.walk(tree) if isinstance(node, kinds)]


def top_names(tree):
    found = [node.name for node in tree.body if isinstance(node, (ast.FunctionDef, ast.ClassDef))]
    return found + [node.targets[0].id for node in tree.body if isinstance(node, ast.Assign)]


def imports(tree):
    return [alias.name for node in tree.body if isinstance(node, ast.ImportFrom) for alias in node.names]


def method_names():
    return {node.name for _, cls in nodes(ast.ClassDef) for node in cls.body}


def value_names():
    return {node.attr for _, node in nodes(ast.Attribute) if isinstance(node.ctx, ast.Store)}


def called(node):
    """The name by which a node calls something, or None."""
    if not isinstance(node, ast.Call):
        return None
    return node.func.id if isinstance(node.func, ast.Name) else getattr(node.func, "attr", None)


def with_parents(kinds):
    """All nodes of these kinds with their file and the node straight around each of them."""
    return [(stem, parent, node) for stem, tree in trees().items() for parent in ast.walk(tree)
            for node in ast.iter_child_nodes(parent) if isinstance(node, kinds)]


def only_reads(parent, node):
    """Whether a list or dict is read here by an index, a walk, `in`, or what makes a copy of it."""
    if isinstance(parent, ast.Subscript):
        return isinstance(parent.ctx, ast.Load) and parent.value is node
    if isinstance(parent, ast.Compare):
        return node in parent.comparators and all(isinstance(op, (ast.In, ast.NotIn)) for op in parent.ops)
    if isinstance(parent, (ast.For, ast.comprehension)):
        return parent.iter is node
    return called(parent) in WALKERS + ["len"] or (isinstance(parent, ast.Attribute) and parent.attr == "get")


def walked_by(loop):
    """The expression whose value a loop walks, without what only walks it likewise."""
    walked = loop.iter
    while isinstance(walked, ast.Call) and called(walked) in WALKED + ["list"]:
        if called(walked) in ("list", "range"):
            return None
        walked = walked.func.value if isinstance(walked.func, ast.Attribute) else walked.args[0]
    return ast.dump(walked)


class Files(unittest.TestCase):
    def test_nothing_else_lies_in_the_package(self):
        for path in PACKAGE.rglob("*"):
            if "__pycache__" not in path.parts:
                self.assertRegex(path.name, r"^(__init__|[a-z][a-z0-9_]*)\.py$")
                self.assertNotIn(path.stem, dir(builtins))

    def test_signs_and_sizes(self):
        for file in FILES:
            text = file.read_text("utf-8")
            self.assertRegex(text, r"\A[ -~\n]*\Z", file.name)
            self.assertLessEqual(len(text.split("\n")), 400, file.name)
            self.assertLessEqual(max(map(len, text.split("\n"))), 120, file.name)

    def test_words_that_stand_nowhere(self):
        for file in FILES:
            text = file.read_text("utf-8")
            self.assertFalse(set(re.findall(r"\w+", text)) & set(WORDS + UNUSED), file.name)
            self.assertFalse([part for part in PARTS if part in text], file.name)


class Tops(unittest.TestCase):
    def test_imports_are_drawn_from_the_defining_file(self):
        found = trees()
        for stem, node in nodes(ast.ImportFrom):
            self.assertEqual((node.level, node.module.split(".")[0]), (0, "onceroad"), stem)
            for alias in node.names:
                self.assertIn(alias.name, top_names(found[node.module.split(".")[1]]), stem)
                self.assertIsNone(alias.asname, stem)

    def test_no_two_files_draw_from_one_another(self):
        draws = {stem: [node.module.split(".")[1] for node in tree.body if isinstance(node, ast.ImportFrom)]
                 for stem, tree in trees().items()}
        while draws:
            free = [stem for stem in draws if not draws[stem]]
            self.assertTrue(free, draws)
            draws = {stem: [one for one in draws[stem] if one not in free] for stem in draws if stem not in free}

    def test_what_stands_at_the_top(self):
        for stem, tree in trees().items():
            self.assertIsNotNone(ast.get_docstring(tree), stem)
            kinds = (ast.ImportFrom, ast.FunctionDef, ast.ClassDef, ast.Assign)
            self.assertTrue(all(isinstance(node, kinds) for node in tree.body[1:]), stem)
            names = top_names(tree) + imports(tree)
            self.assertEqual(len(names), len(set(names)), stem)

    def test_lists_and_dicts_at_the_top_are_only_read(self):
        for stem, tree in trees().items():
            tops = [node for node in tree.body if isinstance(node, ast.Assign)]
            kept = [node.targets[0].id for node in tops if isinstance(node.value, (ast.List, ast.Dict))]
            for node in tops:
                within = [one for one in ast.walk(node.value) if isinstance(one, (ast.List, ast.Dict))]
                self.assertLessEqual(len(within), 1, stem)
            for where, parent, node in with_parents(ast.Name):
                if where == stem and node.id in kept and isinstance(node.ctx, ast.Load):
                    self.assertTrue(only_reads(parent, node), (stem, node.lineno))


class Forms(unittest.TestCase):
    def test_statements_and_expressions(self):
        for stem, tree in trees().items():
            for node in ast.walk(tree):
                self.assertIn(node.__class__.__name__, NODES, (stem, getattr(node, "lineno", 0)))

    def test_functions(self):
        for stem, node in nodes(ast.FunctionDef):
            self.assertLessEqual(node.end_lineno - node.lineno + 1, 40, (stem, node.name))
            args = node.args
            self.assertFalse(node.decorator_list or args.vararg or args.kwarg or args.kwonlyargs or args.posonlyargs)

    def test_classes(self):
        for stem, node in nodes(ast.ClassDef):
            self.assertLessEqual(len(node.bases), 1, (stem, node.name))
            self.assertTrue(all(isinstance(one, ast.FunctionDef) for one in node.body), (stem, node.name))
            self.assertFalse(node.decorator_list or node.keywords)
            names = [one.name for one in node.body]
            self.assertEqual(len(names), len(set(names)))
        self.assertFalse(method_names() & value_names())

    def test_assignments_and_loops(self):
        for stem, node in nodes(ast.Assign):
            self.assertEqual(len(node.targets), 1, (stem, node.lineno))
        for stem, node in nodes((ast.For, ast.While)):
            self.assertFalse(node.orelse, (stem, node.lineno))
        for stem, node in nodes(ast.comprehension):
            self.assertLessEqual(len(node.ifs), 1, stem)
        for stem, node in nodes(ast.ListComp):
            self.assertEqual(len(node.generators), 1, stem)

    def test_is_stands_beside_none_true_and_false(self):
        for stem, node in nodes(ast.Compare):
            for op, right in zip(node.ops, node.comparators):
                if isinstance(op, (ast.Is, ast.IsNot)):
                    self.assertTrue(isinstance(right, ast.Constant) and right.value in (None, True, False), stem)

    def test_values(self):
        for stem, node in nodes(ast.Constant):
            self.assertIsInstance(node.value, (int, str, type(None)), stem)
            self.assertFalse(isinstance(node.value, str) and "%" in node.value, stem)
        for stem, node in nodes(ast.BinOp):
            self.assertFalse(isinstance(node.op, ast.Pow) and not isinstance(node.right, ast.Constant), stem)

    def test_errors(self):
        for stem, node in nodes(ast.Raise):
            self.assertIsInstance(node.exc, ast.Call, (stem, node.lineno))
        for stem, node in nodes(ast.Try):
            self.assertFalse(node.finalbody, (stem, node.lineno))

    def test_no_annotations(self):
        for stem, node in nodes(ast.FunctionDef):
            self.assertIsNone(node.returns, (stem, node.name))
        for stem, node in nodes(ast.arg):
            self.assertIsNone(node.annotation, (stem, node.lineno))

    def test_errors_are_taken_by_the_programs_own_names(self):
        for stem, node in nodes(ast.ExceptHandler):
            self.assertIn(node.type.id, top_names(trees()["errors"]), (stem, node.lineno))

    def test_keywords(self):
        for stem, node in nodes(ast.Call):
            for keyword in node.keywords:
                self.assertIn(keyword.arg, KEYWORDS.get(called(node), []), (stem, node.lineno))

    def test_what_is_walked_is_walked_at_once(self):
        for stem, parent, node in with_parents(ast.Call):
            if called(node) in WALKED:
                walks = isinstance(parent, (ast.For, ast.comprehension)) and parent.iter is node
                walks = walks or (called(parent) in WALKERS and node in parent.args)
                self.assertTrue(walks, (stem, node.lineno))

    def test_what_is_walked_is_not_changed(self):
        for stem, loop in nodes(ast.For):
            walked = walked_by(loop)
            for node in [one for part in loop.body for one in ast.walk(part)]:
                changed = None
                if isinstance(node, ast.Call) and isinstance(node.func, ast.Attribute) and node.func.attr in CHANGES:
                    changed = node.func.value
                elif isinstance(node, ast.Subscript) and isinstance(node.ctx, ast.Store):
                    changed = node.value
                self.assertFalse(changed is not None and ast.dump(changed) == walked, (stem, node))

    def test_lambdas_on_one_line(self):
        lines = [(stem, node.lineno) for stem, node in nodes(ast.Lambda)]
        self.assertEqual(len(lines), len(set(lines)))

    def test_no_sets(self):
        for stem, node in nodes(ast.Name):
            self.assertNotIn(node.id, ("set", "frozenset"), (stem, node.lineno))

    def test_methods_with_two_underscores(self):
        for stem, node in nodes(ast.FunctionDef):
            if node.name.startswith("__"):
                self.assertEqual(node.name, "__init__", stem)
                self.assertFalse([one for one in ast.walk(node) if isinstance(one, ast.Return)], (stem, node.lineno))

    def test_classes_are_called_and_not_kept(self):
        names = [node.name for _, node in nodes(ast.ClassDef)]
        for stem, parent, node in with_parents(ast.Name):
            if node.id in names:
                plain = isinstance(parent, (ast.ClassDef, ast.ExceptHandler)) or called(parent) in (node.id, "isinstance")
                base = isinstance(parent, ast.Attribute) and parent.attr == "__init__"
                self.assertTrue(plain or base, (stem, node.lineno))


class Names(unittest.TestCase):
    def test_plain_names(self):
        names = [(stem, node.id) for stem, node in nodes(ast.Name)]
        names += [(stem, node.arg) for stem, node in nodes(ast.arg)]
        names += [(stem, node.attr) for stem, node in nodes(ast.Attribute)]
        names += [(stem, node.name) for stem, node in nodes((ast.FunctionDef, ast.ClassDef))]
        for stem, name in names:
            if name not in UNDERSCORED:
                self.assertRegex(name, r"^[A-Za-z][A-Za-z0-9_]*$", stem)

    def test_names_of_pythons_own(self):
        for stem, node in nodes(ast.Name):
            self.assertNotIn(node.id, NOT_AS_NAMES, (stem, node.lineno))
            if node.id in dir(builtins):
                self.assertIn(node.id, OWN_NAMES, (stem, node.lineno))
                self.assertIsInstance(node.ctx, ast.Load, (stem, node.lineno))
        for stem, node in nodes(ast.arg):
            self.assertNotIn(node.arg, dir(builtins), (stem, node.lineno))

    def test_locals_are_called_like_no_class_and_no_import(self):
        for stem, tree in trees().items():
            taken = imports(tree) + [node.name for node in tree.body if isinstance(node, ast.ClassDef)]
            for node in ast.walk(tree):
                name = node.arg if isinstance(node, ast.arg) else getattr(node, "id", None)
                if isinstance(node, ast.arg) or isinstance(getattr(node, "ctx", None), ast.Store):
                    self.assertNotIn(name, taken, stem)

    def test_own_methods_and_values(self):
        taken = {name for kind in (str, int, list, dict, set, bytes, tuple) for name in dir(kind)}
        self.assertFalse((method_names() & taken) - set(METHODS + OTHER_METHODS + UNDERSCORED))
        self.assertFalse(value_names() & (taken | {"args"}) - set(VALUES))

    def test_pythons_own_are_called_and_not_kept(self):
        for stem, parent, node in with_parents(ast.Name):
            if node.id in OWN_NAMES and not isinstance(parent, (ast.ClassDef, ast.Attribute, ast.keyword)):
                stands = called(parent) in (node.id, "isinstance") or isinstance(parent, ast.Tuple)
                self.assertTrue(stands, (stem, node.lineno))

    def test_methods(self):
        for stem, node in nodes(ast.Call):
            if isinstance(node.func, ast.Attribute):
                self.assertIn(node.func.attr, METHODS + sorted(method_names()), (stem, node.lineno))


if __name__ == "__main__":
    unittest.main()
