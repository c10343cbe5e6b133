"""The package keeps to ../shared/LANGUAGE.md: what of its rules L1 to L28 is seen from the code's form."""

import ast
import builtins
import re
import unittest
from pathlib import Path

PACKAGE = Path(__file__).resolve().parent.parent / "notbothout"
FILES = {path.stem: path for path in sorted(PACKAGE.glob("*.py"))}
TEXTS = {name: path.read_text(encoding="utf-8") for name, path in FILES.items()}
TREES = {name: ast.parse(text) for name, text in TEXTS.items()}

BUILTINS = set(
    "len range enumerate zip min max sum abs sorted reversed int str bool bytes list tuple dict set frozenset "
    "isinstance ord repr any all divmod iter next super property staticmethod classmethod NotImplemented "
    "Exception ValueError TypeError KeyError IndexError LookupError ZeroDivisionError ArithmeticError "
    "OverflowError RuntimeError NotImplementedError AttributeError StopIteration".split()
)
METHODS = set(
    "append clear copy count endswith extend find get index insert isalnum isalpha isdigit islower isspace isupper "
    "items join keys ljust lower lstrip partition pop remove replace reverse rfind rjust rpartition rsplit rstrip "
    "setdefault split splitlines startswith strip update upper values zfill bit_length title capitalize swapcase "
    "casefold center expandtabs removeprefix removesuffix rindex isascii isdecimal isnumeric istitle isidentifier "
    "isprintable translate add discard".split()
)
DUNDERS = set("__init__ __eq__ __repr__ __str__ __len__ __enter__ __exit__ __call__ __iter__".split())
WORDS_NOWHERE = (
    r"\b(type|typing|typing_extensions|enum|Enum|IntEnum|StrEnum|Flag|IntFlag|Generic|Protocol|ABC|ABCMeta"
    r"|namedtuple|NamedTuple|TypedDict|TYPE_CHECKING|abstractmethod)\b|dataclass|overload|contextmanager"
)
NAMES_NOWHERE = set("register mro elements open input version_info with_traceback add_note".split())
NAMES_NOT_BOUND = set(
    "attrgetter breakpoint builtins compile copyright credits delattr dir eval exec exit gc getattr globals hasattr "
    "help id importlib license locals methodcaller os quit setattr super type vars sys".split()
)
ATTRIBUTES_NOT_HELD = set(
    "items keys values pop update append clear extend insert remove reverse setdefault sort args encode decode hex "
    "fromhex format format_map mro as_integer_ratio bit_count conjugate from_bytes is_integer to_bytes".split()
)
BARRED_NODES = (
    ast.Global, ast.AsyncFunctionDef, ast.AsyncFor, ast.AsyncWith, ast.Await, ast.Import, ast.Div, ast.MatMult,
)


def nodes(*kinds):
    for name, tree in TREES.items():
        for node in ast.walk(tree):
            if isinstance(node, kinds):
                yield name, node


def functions():
    return nodes(ast.FunctionDef)


def parameters(function):
    told = function.args
    extra = [one for one in (told.vararg, told.kwarg) if one]
    return [one.arg for one in [*told.posonlyargs, *told.args, *told.kwonlyargs, *extra]]


def bound_names(function):
    """The parameters and local names of a function, of those nested in it, too."""
    inner = [node for node in ast.walk(function) if isinstance(node, (ast.FunctionDef, ast.Lambda))]
    names = [name for one in inner for name in parameters(one)]
    names += [one.name for one in inner if isinstance(one, ast.FunctionDef) and one is not function]
    return names + [n.id for n in ast.walk(function) if isinstance(n, ast.Name) and isinstance(n.ctx, ast.Store)]


def imports(tree):
    return [node for node in tree.body if isinstance(node, ast.ImportFrom)]


def defined(tree):
    """The names that a file binds at its module level by itself, each as often as it does."""
    names = [node.name for node in tree.body if isinstance(node, (ast.FunctionDef, ast.ClassDef))]
    targets = [target for node in tree.body if isinstance(node, ast.Assign) for target in node.targets]
    return names + [target.id for target in targets if isinstance(target, ast.Name)]


def has_method(name):
    return any(node.name == name for _, node in functions())


class Language(unittest.TestCase):
    def test_files(self):
        inside = [p for p in PACKAGE.rglob("*") if "__pycache__" not in p.parts]
        self.assertEqual([p for p in inside if p.suffix != ".py" or p.parent != PACKAGE], [])
        for name in FILES:
            self.assertRegex(name, r"^(__init__|[a-z][a-z0-9_]*)$")
            self.assertFalse(name.startswith(("test", "law_", "site", "conftest")) or name in dir(builtins), name)

    def test_sizes_and_signs(self):
        for name, text in TEXTS.items():
            self.assertEqual([sign for sign in text if not (" " <= sign <= "~" or sign == "\n")], [], name)
            self.assertLessEqual(len(text.split("\n")), 400, name)
            self.assertEqual([line for line in text.split("\n") if len(line) > 120], [], name)
        for name, node in functions():
            self.assertLessEqual(node.end_lineno - node.lineno + 1, 40, (name, node.name))

    def test_words_that_occur_nowhere(self):
        for name, text in TEXTS.items():
            self.assertIsNone(re.search(WORDS_NOWHERE, text), name)
            self.assertIsNone(re.search(r"\\[^nt\\'\"]", text), name)

    def test_module_level(self):
        allowed = (ast.ImportFrom, ast.FunctionDef, ast.ClassDef, ast.Assign)
        for name, tree in TREES.items():
            rows = tree.body[1:] if ast.get_docstring(tree) is not None else tree.body
            self.assertTrue(all(isinstance(row, allowed) for row in rows), name)
            bound = defined(tree) + [alias.name for node in imports(tree) for alias in node.names]
            self.assertEqual(len(bound), len(set(bound)), name)
            self.assertFalse(set(bound) & (set(dir(builtins)) | NAMES_NOT_BOUND), name)

    def test_imports(self):
        ahead = {}
        for name, tree in TREES.items():
            ahead[name] = []
            for node in imports(tree):
                package, _, module = node.module.partition(".")
                self.assertEqual((package, node.level), ("notbothout", 0), name)
                self.assertIn(module, FILES)
                self.assertEqual([a.name for a in node.names if a.name not in defined(TREES[module]) or a.asname], [])
                ahead[name].append(module)
        while ahead:
            free = [name for name, needed in ahead.items() if not set(needed) & set(ahead)]
            self.assertTrue(free, f"these import one another: {sorted(ahead)}")
            for name in free:
                del ahead[name]

    def test_no_barred_form(self):
        for name, node in nodes(*BARRED_NODES):
            self.fail(f"{name}: {ast.dump(node)}")
        for name, node in nodes(ast.Constant):
            self.assertNotIsInstance(node.value, (float, complex), name)
            self.assertFalse(isinstance(node.value, str) and "%" in node.value, name)
        for name, node in functions():
            self.assertEqual(node.args.posonlyargs, [], name)

    def test_is_stands_beside_none_true_and_false_alone(self):
        for name, node in nodes(ast.Compare):
            for sign, right in zip(node.ops, node.comparators):
                if isinstance(sign, (ast.Is, ast.IsNot)):
                    self.assertTrue(isinstance(right, ast.Constant) and right.value in (None, True, False), name)

    def test_powers_have_literal_exponents(self):
        for name, node in nodes(ast.BinOp):
            if isinstance(node.op, ast.Pow):
                self.assertTrue(isinstance(node.right, ast.Constant) and 0 <= node.right.value <= 64, name)

    def test_any_and_the_like_take_lists(self):
        for name, node in nodes(ast.Call):
            if isinstance(node.func, ast.Name) and node.func.id in "any all min max sum sorted".split():
                self.assertFalse(any(isinstance(told, ast.GeneratorExp) for told in node.args), name)

    def test_names(self):
        plain = re.compile(r"^[A-Za-z][A-Za-z0-9_]*$")
        for name, node in functions():
            self.assertTrue(plain.match(node.name) or node.name in DUNDERS, (name, node.name))
            self.assertFalse(node.name in NAMES_NOWHERE | NAMES_NOT_BOUND, (name, node.name))
            tree = TREES[name]
            classes = {row.name for row in tree.body if isinstance(row, ast.ClassDef)}
            taken = classes | {alias.name for row in imports(tree) for alias in row.names}
            for bound in bound_names(node):
                self.assertRegex(bound, plain)
                self.assertNotIn(bound, taken | set(dir(builtins)) | NAMES_NOWHERE | NAMES_NOT_BOUND, name)

    def test_builtins(self):
        for name, node in nodes(ast.Name):
            if isinstance(node.ctx, ast.Load) and hasattr(builtins, node.id):
                self.assertIn(node.id, BUILTINS, name)

    def test_attributes_and_methods(self):
        own = {node.name for _, node in functions()}
        held = {node.attr for _, node in nodes(ast.Attribute) if isinstance(node.ctx, ast.Store)}
        methods = {row.name for _, node in nodes(ast.ClassDef) for row in node.body if isinstance(row, ast.FunctionDef)}
        self.assertFalse(held & methods)
        self.assertFalse(held & (ATTRIBUTES_NOT_HELD | NAMES_NOWHERE))
        for name, node in nodes(ast.Attribute):
            self.assertIn(node.attr, own | held | METHODS, name)

    def test_methods_that_this_package_has_none_of(self):
        self.assertFalse([name for name, node in nodes(ast.Attribute) if node.attr == "sort" and has_method("__eq__")])

    def test_double_underscore_methods(self):
        for name, node in functions():
            rows = [row for row in ast.walk(node) if isinstance(row, ast.Return)]
            if node.name == "__init__":
                self.assertEqual(rows, [], name)
            if node.name in ("__str__", "__repr__", "__len__"):
                self.assertIsInstance(node.body[-1], ast.Return, name)

    def test_finally_holds_plain_assignments_alone(self):
        simple = (ast.Name, ast.Attribute, ast.Constant)
        for name, node in nodes(ast.Try):
            for row in node.finalbody:
                self.assertIsInstance(row, ast.Assign, name)
                targets = row.targets[0].elts if isinstance(row.targets[0], ast.Tuple) else row.targets
                values = row.value.elts if isinstance(row.value, ast.Tuple) else [row.value]
                self.assertEqual((len(row.targets), len(targets)), (1, len(values)), name)
                self.assertTrue(all(isinstance(part, simple) for part in [*targets, *values]), name)

    def test_tables_of_functions_are_called_through_a_name(self):
        for name, node in nodes(ast.Call):
            self.assertIsInstance(node.func, (ast.Name, ast.Attribute), name)

    def test_calls_of_builtins_have_no_other_keywords(self):
        allowed = {"sorted": {"key", "reverse"}, "min": {"key", "default"}, "max": {"key", "default"},
                   "sum": {"start"}, "enumerate": {"start"}, "zip": {"strict"}}
        for name, node in nodes(ast.Call):
            if isinstance(node.func, ast.Name) and node.func.id in BUILTINS:
                self.assertLessEqual({told.arg for told in node.keywords}, allowed.get(node.func.id, set()), name)

    def test_handlers_name_error_classes(self):
        for name, node in nodes(ast.ExceptHandler):
            self.assertIsNotNone(node.type, name)
            kinds = node.type.elts if isinstance(node.type, ast.Tuple) else [node.type]
            self.assertFalse({kind.id for kind in kinds} & {"Exception", "TypeError", "BaseException"}, name)
        for name, node in nodes(ast.Raise):
            if node.exc is not None:
                self.assertTrue(isinstance(node.exc, ast.Call) and isinstance(node.exc.func, ast.Name), name)


if __name__ == "__main__":
    unittest.main()
