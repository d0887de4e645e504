"""The package keeps to its part of Python: the rules L1 to L28 as far as a look at the code can tell."""

import ast
import builtins
import pathlib
import re
import unittest

PACKAGE = pathlib.Path(__file__).resolve().parent.parent / "figurejudge"

OWN_NAMES = set("""len range enumerate zip min max sum abs sorted reversed int str bool list tuple dict set frozenset
isinstance ord repr any all divmod Exception ValueError TypeError KeyError IndexError LookupError ZeroDivisionError
ArithmeticError OverflowError RuntimeError NotImplementedError AttributeError StopIteration""".split())
METHODS = set("""append clear copy count endswith extend find get index insert isalnum isalpha isdigit islower isspace
isupper items join keys ljust lower lstrip partition pop remove replace reverse rfind rjust rpartition rsplit rstrip
setdefault split splitlines startswith strip update upper values zfill bit_length __init__""".split())
SPECIAL = ("__init__", "__eq__", "__repr__", "__str__", "__len__")
NODES = (ast.Module, ast.ImportFrom, ast.alias, ast.FunctionDef, ast.ClassDef, ast.arguments, ast.arg, ast.Lambda,
         ast.Assign, ast.AugAssign, ast.If, ast.While, ast.For, ast.Return, ast.Break, ast.Continue, ast.Pass, ast.Raise,
         ast.Try, ast.ExceptHandler, ast.Expr, ast.Constant, ast.List, ast.Tuple, ast.Dict, ast.BinOp, ast.UnaryOp,
         ast.BoolOp, ast.Compare, ast.IfExp, ast.Call, ast.keyword, ast.Attribute, ast.Subscript, ast.Slice, ast.ListComp,
         ast.comprehension, ast.JoinedStr, ast.FormattedValue, ast.Name, ast.expr_context, ast.operator, ast.unaryop,
         ast.boolop, ast.cmpop)
BARRED_WORDS = set("""type typing typing_extensions enum Enum IntEnum StrEnum Flag IntFlag Generic Protocol ABC ABCMeta
namedtuple NamedTuple TypedDict TYPE_CHECKING abstractmethod""".split())
BARRED_NAMES = set("""attrgetter breakpoint builtins compile copyright credits delattr dir eval exec exit gc getattr
globals hasattr help id importlib license locals methodcaller os quit setattr super vars sys""".split())
BARRED_EVERYWHERE = set("register mro elements open input version_info with_traceback add_note format format_map".split())
WALKED = ("zip", "enumerate", "reversed", "range")
WALKERS = ("list", "tuple", "dict", "sorted", "sum", "any", "all", "enumerate", "zip", "min", "max")


def files():
    return sorted(PACKAGE.glob("*.py"))


def trees():
    return [(path, ast.parse(path.read_text())) for path in files()]


def nodes(kinds=ast.AST):
    for path, tree in trees():
        for node in ast.walk(tree):
            if isinstance(node, kinds):
                yield f"{path.name}:{getattr(node, 'lineno', 0)}", node


def bound_names(tree):
    for node in ast.walk(tree):
        if isinstance(node, ast.Name) and not isinstance(node.ctx, ast.Load):
            yield node.id
        elif isinstance(node, ast.arg):
            yield node.arg
        elif isinstance(node, (ast.FunctionDef, ast.ClassDef)):
            yield node.name


def top_names(tree):
    for node in tree.body:
        if isinstance(node, (ast.FunctionDef, ast.ClassDef)):
            yield node.name
        elif isinstance(node, ast.Assign):
            yield node.targets[0].id


def drawn_from(tree):
    return [node for node in tree.body if isinstance(node, ast.ImportFrom)]


class FilesTest(unittest.TestCase):
    def test_nothing_but_plain_files(self):
        for path in PACKAGE.iterdir():
            if path.name != "__pycache__":
                self.assertRegex(path.name, r"^([a-z][a-z0-9_]*|__init__|__main__)\.py$")
        self.assertTrue((PACKAGE / "__init__.py").exists())

    def test_signs_lines_and_words(self):
        for path in files():
            text = path.read_text()
            self.assertTrue(all(sign == "\n" or " " <= sign <= "~" for sign in text), path.name)
            self.assertLessEqual(len(text.splitlines()), 400)
            self.assertLessEqual(max(len(line) for line in text.splitlines()), 120)
            self.assertEqual(BARRED_WORDS & set(re.findall(r"\w+", text)), set(), path.name)
            self.assertNotRegex(text, "dataclass|overload|contextmanager")

    def test_functions_are_small(self):
        for where, node in nodes(ast.FunctionDef):
            self.assertLessEqual(node.end_lineno - node.lineno + 1, 40, where)


class ImportsTest(unittest.TestCase):
    def test_own_modules_alone_from_the_file_that_defines_the_name(self):
        by_module = {f"figurejudge.{path.stem}": tree for path, tree in trees()}
        for path, tree in trees():
            for node in drawn_from(tree):
                self.assertEqual(node.level, 0)
                for alias in node.names:
                    self.assertIn(alias.name, list(top_names(by_module[node.module])), path.name)

    def test_at_the_top_and_in_no_circle(self):
        left = {f"figurejudge.{path.stem}": {node.module for node in drawn_from(tree)} for path, tree in trees()}
        self.assertEqual(sum(len(drawn_from(tree)) for path, tree in trees()), len(list(nodes(ast.ImportFrom))))
        while left:
            free = [module for module in left if not left[module] & set(left)]
            self.assertTrue(free, left)
            for module in free:
                left.pop(module)


class FormsTest(unittest.TestCase):
    def test_statements_and_expressions(self):
        for where, node in nodes():
            self.assertIsInstance(node, NODES, where)
            self.assertNotIsInstance(node, (ast.Div, ast.MatMult), where)
            if isinstance(node, ast.Constant):
                self.assertIn(node.value.__class__, (int, str, bool, None.__class__), where)
                self.assertNotIn("%", str(node.value), where)
            if isinstance(node, (ast.For, ast.While)):
                self.assertEqual(node.orelse, [], where)
            if isinstance(node, ast.Assign):
                self.assertEqual(len(node.targets), 1, where)
                self.assertNotIsInstance(node.targets[0], (ast.Tuple, ast.List), where)
            if isinstance(node, ast.ListComp):
                self.assertEqual(len(node.generators), 1, where)
                self.assertLessEqual(len(node.generators[0].ifs), 1, where)
            if isinstance(node, ast.FormattedValue):
                self.assertIsInstance(node.value, ast.Name, where)
            if isinstance(node, ast.BinOp) and isinstance(node.op, ast.Pow):
                self.assertIsInstance(node.right, ast.Constant, where)

    def test_functions_and_classes(self):
        for where, node in nodes((ast.FunctionDef, ast.ClassDef, ast.arguments)):
            if isinstance(node, ast.arguments):
                self.assertFalse(node.vararg or node.kwarg or node.kwonlyargs or node.posonlyargs, where)
                continue
            self.assertEqual(node.decorator_list, [], where)
            self.assertTrue(ast.get_docstring(node) or node.name == "__init__", where)
            if isinstance(node, ast.ClassDef):
                self.assertLessEqual(len(node.bases), 1, where)
                self.assertTrue(all(isinstance(part, (ast.FunctionDef, ast.Expr)) for part in node.body), where)

    def test_no_two_lambdas_with_the_same_parameters_on_one_line(self):
        seen = set()
        for where, node in nodes(ast.Lambda):
            key = (where, tuple(arg.arg for arg in node.args.args))
            self.assertNotIn(key, seen)
            seen.add(key)

    def test_is_stands_beside_none_true_false(self):
        for where, node in nodes(ast.Compare):
            for word, side in zip(node.ops, node.comparators):
                if isinstance(word, (ast.Is, ast.IsNot)):
                    self.assertIsInstance(side, ast.Constant, where)

    def test_the_top_of_a_module(self):
        for path, tree in trees():
            self.assertIsNotNone(ast.get_docstring(tree), path.name)
            for node in tree.body[1:]:
                self.assertIsInstance(node, (ast.ImportFrom, ast.FunctionDef, ast.ClassDef, ast.Assign), path.name)
            self.assertEqual(len(set(top_names(tree))), len(list(top_names(tree))), path.name)


class NamesTest(unittest.TestCase):
    def test_plain_and_not_like_pythons_own(self):
        for path, tree in trees():
            for name in bound_names(tree):
                if name not in SPECIAL:
                    self.assertRegex(name, "^[A-Za-z][A-Za-z0-9_]*$", path.name)
                    self.assertFalse(hasattr(builtins, name) or name in BARRED_NAMES, (path.name, name))
                    self.assertNotIn(name, BARRED_EVERYWHERE, path.name)

    def test_no_local_is_called_like_an_import_or_a_class(self):
        for path, tree in trees():
            taken = {alias.asname or alias.name for node in drawn_from(tree) for alias in node.names}
            taken |= {node.name for node in tree.body if isinstance(node, ast.ClassDef)}
            bound = [node.id for node in ast.walk(tree) if isinstance(node, ast.Name) and isinstance(node.ctx, ast.Store)]
            bound += [node.arg for node in ast.walk(tree) if isinstance(node, ast.arg)]
            self.assertEqual(taken & set(bound), set(), path.name)

    def test_pythons_own_names_that_are_read(self):
        for where, node in nodes(ast.Name):
            if hasattr(builtins, node.id):
                self.assertIn(node.id, OWN_NAMES, where)

    def test_methods_that_are_called(self):
        own = {node.name for where, node in nodes(ast.FunctionDef)}
        for where, node in nodes(ast.Call):
            if isinstance(node.func, ast.Attribute):
                self.assertIn(node.func.attr, METHODS | own, where)

    def test_values_of_objects(self):
        for where, node in nodes(ast.Attribute):
            self.assertNotIn(node.attr, BARRED_EVERYWHERE, where)

    def test_sets_are_not_kept(self):
        for path, tree in trees():
            self.assertFalse([node for node in ast.walk(tree) if isinstance(node, ast.Set)])
        kept = re.compile(r"(?<!sorted\()(?<!len\()(?<!in )\bset\(")
        for path in files():
            self.assertIsNone(kept.search(path.read_text()), path.name)

    def test_walks_are_walked_on_the_spot(self):
        for path, tree in trees():
            walked = set()
            for node in ast.walk(tree):
                if isinstance(node, (ast.For, ast.comprehension)):
                    walked.add(node.iter)
                elif isinstance(node, ast.Call) and getattr(node.func, "id", "") in WALKERS:
                    walked.update(node.args)
            for node in ast.walk(tree):
                if isinstance(node, ast.Call) and getattr(node.func, "id", "") in WALKED:
                    self.assertIn(node, walked, f"{path.name}:{node.lineno}")


if __name__ == "__main__":
    unittest.main()
