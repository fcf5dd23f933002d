"""Holds the package's files against the rules of form that can be seen in a syntax tree.

The rules' own document lies beside the project, not in it; each test names the rules that it holds.
"""

import ast
import builtins
import pathlib
import re
import unittest

import joincrew

FOLDER = pathlib.Path(joincrew.__file__).parent

OWN_NAMES = set("""
len range enumerate zip min max sum abs sorted reversed int str bool list tuple dict set frozenset isinstance ord repr
any all divmod Exception ValueError TypeError KeyError IndexError LookupError ZeroDivisionError ArithmeticError
OverflowError RuntimeError NotImplementedError AttributeError StopIteration
""".split())

METHODS = set("""
append clear copy count endswith extend find get index insert isalnum isalpha isdigit islower isspace isupper items join
keys ljust lower lstrip partition pop remove replace reverse rfind rjust rpartition rsplit rstrip setdefault split
splitlines startswith strip update upper values zfill bit_length
""".split())

WORDS_NOWHERE = re.compile(
    r"\b(type|typing|typing_extensions|enum|Enum|IntEnum|StrEnum|Flag|IntFlag|Generic|Protocol|ABC|ABCMeta|namedtuple"
    r"|NamedTuple|TypedDict|TYPE_CHECKING|abstractmethod)\b|dataclass|overload|contextmanager")

NAMES_NOWHERE = set("register mro elements open input version_info with_traceback add_note format format_map".split())

SPECIAL_METHODS = ("__init__", "__eq__", "__repr__", "__str__", "__len__")

NODES = (
    ast.Module, ast.Expr, ast.ImportFrom, ast.alias, ast.FunctionDef, ast.arguments, ast.arg, ast.ClassDef, ast.Lambda,
    ast.Assign, ast.AugAssign, ast.If, ast.While, ast.For, ast.Return, ast.Break, ast.Continue, ast.Pass, ast.Raise,
    ast.Try, ast.ExceptHandler, ast.Constant, ast.List, ast.Tuple, ast.Dict, ast.Set, ast.BinOp, ast.UnaryOp,
    ast.BoolOp, ast.Compare, ast.IfExp, ast.Call, ast.keyword, ast.Attribute, ast.Subscript, ast.Slice, ast.ListComp,
    ast.comprehension, ast.JoinedStr, ast.FormattedValue, ast.Name, ast.expr_context, ast.operator, ast.unaryop,
    ast.boolop, ast.cmpop,
)


def files():
    return sorted(FOLDER.rglob("*.py"))


def nodes(kind):
    for file in files():
        for node in ast.walk(ast.parse(file.read_text())):
            if isinstance(node, kind):
                yield file.name, node


def parents(kind):
    """Each node of a kind, with the node in which it stands."""
    for name, node in nodes(ast.AST):
        for part in ast.iter_child_nodes(node):
            if isinstance(part, kind):
                yield name, part, node


def called_name(node):
    return node.func.id if isinstance(node, ast.Call) and isinstance(node.func, ast.Name) else None


def own_classes():
    return {node.name for name, node in nodes(ast.ClassDef)}


def own_methods():
    return {part.name for name, node in nodes(ast.ClassDef) for part in node.body if isinstance(part, ast.FunctionDef)}


class Form(unittest.TestCase):
    def test_files_l1_l14(self):
        for path in FOLDER.rglob("*"):
            if "__pycache__" in path.parts:
                continue
            self.assertEqual(path.suffix, ".py", path)
            self.assertRegex(path.stem, r"^([a-z][a-z0-9_]*|__init__|__main__)$")
            self.assertFalse(path.stem.startswith("test") or path.stem in dir(builtins), path)

    def test_signs_and_sizes_l10_l14(self):
        for file in files():
            text = file.read_bytes()
            self.assertTrue(all(sign == 10 or 32 <= sign <= 126 for sign in text), file)
            rows = text.decode().split("\n")
            self.assertLessEqual(len(rows), 401, file)
            self.assertLessEqual(max(len(row) for row in rows), 120, file)
        for name, node in nodes(ast.FunctionDef):
            self.assertLessEqual(node.end_lineno - node.lineno + 1, 40, (name, node.name))

    def test_imports_l2_l16(self):
        for name, node in nodes(ast.ImportFrom):
            self.assertEqual(node.level, 0, name)
            self.assertTrue(node.module.startswith("joincrew."), name)
            source = ast.parse((FOLDER / (node.module.split(".")[1] + ".py")).read_text())
            defined = {part.name for part in source.body if isinstance(part, (ast.FunctionDef, ast.ClassDef))}
            for part in source.body:
                if isinstance(part, ast.Assign):
                    defined.add(part.targets[0].id)
            for drawn in node.names:
                self.assertIsNone(drawn.asname, name)
                self.assertIn(drawn.name, defined, name)

    def test_no_two_files_draw_from_one_another_l16(self):
        drawn = {}
        for name, node in nodes(ast.ImportFrom):
            drawn.setdefault(name, set()).add(node.module.split(".")[1] + ".py")
        while drawn:
            free = [name for name in drawn if not drawn[name] & set(drawn)]
            self.assertTrue(free, drawn)
            for name in free:
                drawn.pop(name)

    def test_nodes_l4_l6_l7(self):
        for name, node in nodes(ast.AST):
            where = f"{name}, line {getattr(node, 'lineno', 0)}: {ast.dump(node):.200}"
            self.assertIsInstance(node, NODES, where)
            self.assertNotIsInstance(node, (ast.Div, ast.MatMult), where)
            if isinstance(node, (ast.FunctionDef, ast.ClassDef)):
                self.assertEqual(node.decorator_list, [], where)
            if isinstance(node, ast.arguments):
                self.assertEqual((node.vararg, node.kwarg, node.kwonlyargs, node.posonlyargs), (None, None, [], []))
            if isinstance(node, ast.Assign):
                self.assertEqual(len(node.targets), 1, where)
            if isinstance(node, (ast.For, ast.While)):
                self.assertEqual(node.orelse, [], where)
            if isinstance(node, ast.Try):
                self.assertEqual(node.finalbody, [], where)
            if isinstance(node, ast.ListComp):
                self.assertEqual(len(node.generators), 1, where)
                self.assertLessEqual(len(node.generators[0].ifs), 1, where)
            if isinstance(node, ast.FormattedValue):
                self.assertIsInstance(node.value, ast.Name, where)
                self.assertIsNone(node.format_spec, where)
            if isinstance(node, ast.Constant):
                self.assertIsInstance(node.value, (int, str, bool, type(None)), where)

    def test_tops_l3_l15(self):
        for file in files():
            bound = []
            for number, part in enumerate(ast.parse(file.read_text()).body):
                if isinstance(part, ast.Expr):
                    self.assertEqual((number, type(part.value)), (0, ast.Constant), file)
                elif isinstance(part, ast.Assign):
                    bound.append(part.targets[0].id)
                elif isinstance(part, ast.ImportFrom):
                    bound += [drawn.name for drawn in part.names]
                else:
                    self.assertIsInstance(part, (ast.FunctionDef, ast.ClassDef), file)
                    bound.append(part.name)
            self.assertEqual(len(bound), len(set(bound)), file)

    def test_classes_l5_l18(self):
        for name, node in nodes(ast.ClassDef):
            self.assertLessEqual(len(node.bases), 1, name)
            self.assertEqual(node.keywords, [], name)
            names = []
            for part in node.body:
                self.assertIsInstance(part, (ast.FunctionDef, ast.Pass), name)
                names.append(getattr(part, "name", "pass"))
            self.assertEqual(len(names), len(set(names)), name)
        values = {node.attr for name, node in nodes(ast.Attribute) if isinstance(node.ctx, ast.Store)}
        self.assertEqual(values & own_methods(), set())

    def test_names_l8_l12_l15_l17(self):
        for name, node in nodes((ast.Name, ast.arg, ast.FunctionDef, ast.ClassDef)):
            word = getattr(node, "id", None) or getattr(node, "arg", None) or node.name
            if word in SPECIAL_METHODS:
                continue
            self.assertRegex(word, r"^[A-Za-z][A-Za-z0-9_]*$", name)
            self.assertNotIn(word, NAMES_NOWHERE, name)
            if word in dir(builtins):
                self.assertIsInstance(node, ast.Name, (name, word))
                self.assertIsInstance(node.ctx, ast.Load, (name, word))
                self.assertIn(word, OWN_NAMES, name)
        for file in files():
            self.assertIsNone(WORDS_NOWHERE.search(file.read_text()), file)

    def test_locals_are_called_like_no_class_and_no_import_l15(self):
        for file in files():
            tree = ast.parse(file.read_text())
            taken = {drawn.name for part in tree.body if isinstance(part, ast.ImportFrom) for drawn in part.names}
            taken |= {part.name for part in tree.body if isinstance(part, ast.ClassDef)}
            for node in ast.walk(tree):
                if isinstance(node, ast.arg):
                    self.assertNotIn(node.arg, taken, file)
                if isinstance(node, ast.Name) and isinstance(node.ctx, ast.Store):
                    self.assertNotIn(node.id, taken, file)

    def test_methods_l25_l26(self):
        for name, node in nodes(ast.Call):
            if isinstance(node.func, ast.Attribute):
                self.assertIn(node.func.attr, METHODS | own_methods(), name)
        for name, node in nodes(ast.Attribute):
            self.assertNotIn(node.attr, NAMES_NOWHERE, name)

    def test_names_of_own_methods_and_values_l26(self):
        taken = set()
        for kind in (str, int, list, tuple, dict, set, frozenset, bytes, bytearray):
            taken |= set(dir(kind))
        values = {node.attr for name, node in nodes(ast.Attribute) if isinstance(node.ctx, ast.Store)}
        self.assertEqual(values & taken, set())
        self.assertEqual(own_methods() & (taken - METHODS - set(SPECIAL_METHODS) - {"add", "discard"}), set())

    def test_no_annotations_l21(self):
        for name, node in nodes(ast.arg):
            self.assertIsNone(node.annotation, name)
        for name, node in nodes(ast.FunctionDef):
            self.assertIsNone(node.returns, name)

    def test_walked_on_the_spot_l23(self):
        for name, node, around in parents(ast.Call):
            views = isinstance(node.func, ast.Attribute) and node.func.attr in ("items", "keys", "values")
            if not views and called_name(node) not in ("zip", "enumerate", "reversed", "range"):
                continue
            where = f"{name}, line {node.lineno}"
            if isinstance(around, (ast.For, ast.comprehension)):
                self.assertIs(around.iter, node, where)
            else:
                self.assertIn(called_name(around), ("list", "tuple", "dict", "sorted", "sum", "any", "all", "enumerate",
                                                    "zip", "min", "max"), where)

    def test_sets_are_not_kept_l24(self):
        for name, node, around in parents((ast.Call, ast.Set)):
            if isinstance(node, ast.Set) or called_name(node) in ("set", "frozenset"):
                asked = isinstance(around, (ast.Compare, ast.BinOp)) or called_name(around) in ("sorted", "len")
                self.assertTrue(asked, f"{name}, line {node.lineno}")

    def test_is_stands_beside_none_true_and_false_l20(self):
        for name, node in nodes(ast.Compare):
            for sign, right in zip(node.ops, node.comparators):
                if isinstance(sign, (ast.Is, ast.IsNot)):
                    self.assertIsInstance(right, ast.Constant, name)
                    self.assertIn(right.value, (None, True, False), name)

    def test_handlers_and_raises_l19(self):
        for name, node in nodes(ast.ExceptHandler):
            self.assertIsInstance(node.type, (ast.Name, ast.Tuple), name)
            for word in ast.walk(node.type):
                self.assertNotIn(getattr(word, "id", ""), ("Exception", "TypeError"), name)
        for name, node in nodes(ast.Raise):
            self.assertIsInstance(node.exc, ast.Call, name)
            self.assertIn(node.exc.func.id, own_classes(), name)

    def test_texts_l27(self):
        for name, node in nodes(ast.Constant):
            if isinstance(node.value, str):
                self.assertNotIn("%", node.value, name)


if __name__ == "__main__":
    unittest.main()
