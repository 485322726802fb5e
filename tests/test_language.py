"""The package's files keep to the small part of Python that the project is held to.

What can be seen in a file's tree is asked here, rule by rule (L1 to L28 in part); the rest is for readers.
"""

import ast
import builtins
import os
import re
import unittest

PACKAGE = os.path.join(os.path.dirname(os.path.dirname(os.path.abspath(__file__))), "ballastway")

NODES = """Module FunctionDef ClassDef arguments arg Return Assign AugAssign For While If Raise Try ExceptHandler
ImportFrom alias Expr Pass Break Continue BoolOp And Or BinOp Add Sub Mult FloorDiv Mod Pow BitAnd BitOr BitXor LShift
RShift UnaryOp Not USub UAdd Invert Lambda IfExp Dict ListComp comprehension Compare Eq NotEq Lt LtE Gt GtE Is IsNot In
NotIn Call keyword JoinedStr FormattedValue Constant Attribute Subscript Slice Name List Tuple Set Load Store""".split()

OWN_OF_PYTHON = """len range enumerate zip min max sum abs sorted reversed int str bool list tuple dict set frozenset
isinstance ord repr any all divmod Exception ValueError TypeError KeyError IndexError LookupError ZeroDivisionError
ArithmeticError OverflowError RuntimeError NotImplementedError AttributeError StopIteration""".split()

METHODS = """append clear copy count endswith extend find get index insert isalnum isalpha isdigit islower isspace
isupper items join keys ljust lower lstrip partition pop remove replace reverse rfind rjust rpartition rsplit rstrip
setdefault split splitlines startswith strip update upper values zfill bit_length""".split()

TWO_UNDERSCORES = ["__init__", "__eq__", "__repr__", "__str__", "__len__"]

WORDS_NOWHERE = re.compile(
    r"\b(type|typing|typing_extensions|enum|Enum|IntEnum|StrEnum|Flag|IntFlag|Generic|Protocol|ABC|ABCMeta|namedtuple"
    r"|NamedTuple|TypedDict|TYPE_CHECKING|abstractmethod)\b|dataclass|overload|contextmanager")

NAMES_NOWHERE = """register mro elements open input version_info with_traceback add_note attrgetter breakpoint builtins
compile copyright credits delattr dir eval exec exit gc getattr globals hasattr help id importlib license locals
methodcaller os quit setattr super type vars sys chr format format_map""".split()


# Each of these breaks a rule; the test of the test.
OUTSIDE = [
    "import sys",
    "from ballastway.errors import *",
    "from fractions import Fraction",
    "x = 1 / 2",
    "x = 1.5",
    "x = b'a'",
    "x = len([])",
    "print(1)",
    "def f(*a):\n    pass",
    "def _f():\n    pass",
    "def f():\n    return {a: 1 for a in []}",
    "def f(a):\n    return [b for b in a for c in b]",
    "def f(a):\n    return 2 ** a",
    "def f(a):\n    return a is 0",
    "def f():\n    yield 1",
    "def f(a):\n    a.sort()",
    "def f(a):\n    assert a",
    "def f(a):\n    b = c = a",
    "def f(a):\n    for b in a:\n        pass\n    else:\n        pass",
    "class A:\n    b = 1",
    "def f(a):\n    return f'{a + 1}'",
    "x = '\u00e4'",
    "x = 'a % b'",
    "x = 'its type'",
    "x = 1\nx = 2",
    "def f(id):\n    pass",
    "def f(a):\n    return any(b for b in a)",
    "x = 1\t",
    "x = '" + "a" * 120 + "'",
    "def f(a):\n    try:\n        pass\n    finally:\n        pass",
    "def f(a):\n    with a:\n        pass",
    "def f():\n" + "    pass\n" * 40,
    "def f():\n    'a text by itself'\n    return 1",
    "def f(a):\n    b, c = a\n    return b",
    "from ballastway.errors import BadRow\ndef f(BadRow):\n    pass",
    "class A:\n    pass\ndef f():\n    A = 1",
    "from ballastway.errors import BadRow\ndef f():\n    return [BadRow]",
    "from ballastway.errors import BadRow\ndef f():\n    e = BadRow(1)\n    raise e",
    "def f(a):\n    b = zip(a, a)\n    return b",
    "def f(a):\n    return a.items()",
    "def f(a):\n    return range(a)",
    "def f(a):\n    b = set(a)\n    return b",
    "def f(a):\n    for b in set(a):\n        pass",
    "def f(a):\n    return a.split(sep=' ')",
    "def f(a):\n    return sorted(a, key=len, reverse=a)",
    "def f(a):\n    for b in a:\n        a.append(b)",
    "class A:\n    def __init__(self):\n        self.items = []",
    "class A:\n    def __init__(self):\n        self.title = 1\nclass B:\n    def title(self):\n        return 1",
    "x = '\\x41'",
    "x = [[1], [2]]",
    "def f(a):\n    return len",
]


def is_plain(node):
    if isinstance(node, (ast.List, ast.Tuple)):
        return all(is_plain(each) for each in node.elts)
    if isinstance(node, ast.Dict):
        return all(is_plain(each) for each in node.keys + node.values)
    if isinstance(node, ast.UnaryOp):
        return isinstance(node.op, ast.USub) and is_plain(node.operand)
    return isinstance(node, (ast.Constant, ast.Name))


def is_text(node):
    # A file's or class's docstring; one in a function is none of L6's statements.
    return isinstance(node, ast.Expr) and isinstance(node.value, ast.Constant) and isinstance(node.value.value, str)


def file_faults(source):
    rows = source.split("\n")
    if len(rows) > 401:
        yield "L10: more than 400 rows"
    for number, row in enumerate(rows, 1):
        if len(row) > 120:
            yield f"L10: row {number} is too long"
        if any(not " " <= sign <= "~" for sign in row):
            yield f"L14: row {number} has another sign"
        if WORDS_NOWHERE.search(row):
            yield f"L17: row {number} has a word that stands nowhere"


def top_faults(tree):
    bound = []
    for place, node in enumerate(tree.body):
        if isinstance(node, ast.ImportFrom):
            own = node.level == 0 and (node.module or "").startswith("ballastway.")
            if node.module != "__future__" and (not own or node.names[0].name == "*"):
                yield f"L2: row {node.lineno} imports another thing"
            bound.extend([name.asname or name.name for name in node.names])
        elif isinstance(node, ast.Assign):
            if not is_plain(node.value) or not isinstance(node.targets[0], ast.Name):
                yield f"L3: row {node.lineno} is no plain value"
            bound.extend([target.id for target in node.targets if isinstance(target, ast.Name)])
        elif isinstance(node, (ast.FunctionDef, ast.ClassDef)):
            bound.append(node.name)
        elif not (is_text(node) and place == 0):
            yield f"L3: row {node.lineno} does something at the top"
    if len(bound) != len(set(bound)):
        yield "L15: a name is bound twice at the top"


def def_faults(node):
    rows = node.end_lineno - node.lineno + 1
    if rows > 40:
        yield "L10: more than 40 rows"
    if node.decorator_list:
        yield "L4: a decorator"
    if node.args.vararg or node.args.kwarg or node.args.kwonlyargs or node.args.posonlyargs:
        yield "L4: other than plain parameters"
    if any(not is_plain(each) for each in node.args.defaults):
        yield "L4: a default that is no plain value"


def class_faults(node):
    if node.decorator_list or node.keywords or len(node.bases) > 1:
        yield "L5: a class that is not plain"
    if any(not isinstance(each, (ast.FunctionDef, ast.Pass)) for each in node.body):
        yield "L5: more than methods in a class"


def statement_faults(node):
    if isinstance(node, (ast.For, ast.While)) and node.orelse:
        yield "L6: an else behind a loop"
    if isinstance(node, ast.Try) and node.finalbody:
        yield "L6: finally"
    if isinstance(node, ast.Assign):
        if len(node.targets) != 1 or isinstance(node.targets[0], (ast.Tuple, ast.List)):
            yield "L6: two targets"
    if isinstance(node, ast.FunctionDef) and any(is_text(each) for each in node.body):
        yield "L6: a text by itself"
    if isinstance(node, ast.Raise) and not isinstance(node.exc, ast.Call):
        yield "L19: an error that is not made on the spot"
    if isinstance(node, ast.Expr) and not isinstance(node.value, ast.Call) and not is_text(node):
        yield "L6: a value by itself"
    if isinstance(node, ast.ExceptHandler):
        if node.type is None or ast.unparse(node.type) in ["Exception", "TypeError"]:
            yield "L19: takes too much"


def value_faults(node):
    if isinstance(node, ast.Constant):
        if not isinstance(node.value, (int, str, type(None))):
            yield "L7: a value of another kind"
        if isinstance(node.value, str) and "%" in node.value:
            yield "L27: a text with the sign of a rest"
    if isinstance(node, ast.ListComp) and (len(node.generators) != 1 or len(node.generators[0].ifs) > 1):
        yield "L7: a comprehension with more than one for and one if"
    if isinstance(node, ast.FormattedValue):
        if not isinstance(node.value, ast.Name) or node.format_spec or node.conversion not in [-1, ord("r")]:
            yield "L7: more than a name in an f-string"
    if isinstance(node, ast.BinOp) and isinstance(node.op, ast.Pow):
        power = node.right.value if isinstance(node.right, ast.Constant) else None
        if not isinstance(power, int) or not 0 <= power <= 64:
            yield "L27: an exponent that is not written"
    if isinstance(node, ast.Compare):
        sides = [node.left] + node.comparators
        for place, sign in enumerate(node.ops):
            plain = [ast.unparse(side) in ["None", "True", "False"] for side in sides[place:place + 2]]
            if isinstance(sign, (ast.Is, ast.IsNot)) and not any(plain):
                yield "L20: is beside another value"


def bound_name(node):
    if isinstance(node, (ast.FunctionDef, ast.ClassDef)):
        return node.name
    if isinstance(node, ast.arg):
        return node.arg
    if isinstance(node, ast.Name) and isinstance(node.ctx, ast.Store):
        return node.id
    if isinstance(node, ast.ExceptHandler):
        return node.name
    return None


def name_faults(node):
    name = bound_name(node)
    if name is not None and name not in TWO_UNDERSCORES:
        if hasattr(builtins, name):
            yield f"L15: {name} is a name of Python's own"
        if name.startswith("_"):
            yield f"L12: {name} begins with an underscore"
    if isinstance(node, ast.Name):
        if node.id in NAMES_NOWHERE or (hasattr(builtins, node.id) and node.id not in OWN_OF_PYTHON):
            yield f"L8, L17: the name {node.id}"
        if not re.fullmatch("[A-Za-z][A-Za-z0-9_]*", node.id):
            yield f"L12: the name {node.id}"
    if isinstance(node, ast.Attribute) and node.attr in NAMES_NOWHERE:
        yield f"L8, L17: the value {node.attr}"


def call_faults(node, methods):
    if isinstance(node, ast.Call) and isinstance(node.func, ast.Attribute):
        if node.func.attr not in METHODS + methods + ["__init__"]:
            yield f"L25: the method {node.func.attr}"


def top_names(tree):
    named = []
    for node in tree.body:
        if isinstance(node, ast.ImportFrom):
            named.extend([each.asname or each.name for each in node.names])
        if isinstance(node, ast.ClassDef):
            named.append(node.name)
    return named


def class_names(tree):
    # A name with a great first letter is a class, here and where it is drawn from; plain values have none but great.
    return [name for name in top_names(tree) if name[0].isupper() and not name.isupper()]


def parents_of(tree):
    return {child: node for node in ast.walk(tree) for child in ast.iter_child_nodes(node)}


def is_call_of(node, names):
    return isinstance(node, ast.Call) and isinstance(node.func, ast.Name) and node.func.id in names


def is_walked(node, above):
    if isinstance(above, (ast.For, ast.comprehension)) and above.iter is node:
        return True
    if isinstance(above, ast.Call) and above.args and above.args[0] is node:
        if is_call_of(above, ["list", "tuple", "dict", "sorted", "sum", "any", "all", "enumerate", "zip"]):
            return True
        if is_call_of(above, ["min", "max"]) and len(above.args) == 1:
            return True
        return isinstance(above.func, ast.Attribute) and above.func.attr == "join"
    return is_call_of(above, ["zip"])


def walk_faults(node, above):
    walks = is_call_of(node, ["zip", "enumerate", "reversed", "range"])
    if isinstance(node, ast.Call) and isinstance(node.func, ast.Attribute):
        walks = walks or node.func.attr in ["items", "keys", "values"]
    if walks and not is_walked(node, above):
        yield "L23: a walk that is kept"
    if is_call_of(node, ["set", "frozenset"]):
        if not isinstance(above, (ast.Compare, ast.BinOp)) and not is_call_of(above, ["sorted", "len"]):
            yield "L24: a set that is kept"


def loop_faults(node):
    if isinstance(node, ast.For) and isinstance(node.iter, ast.Name):
        for each in [each for row in node.body for each in ast.walk(row)]:
            if isinstance(each, ast.Call) and isinstance(each.func, ast.Attribute):
                changed = isinstance(each.func.value, ast.Name) and each.func.value.id == node.iter.id
                if changed and each.func.attr in "append clear extend insert pop remove reverse update".split():
                    yield "L23: what is walked is changed"


def use_faults(node, above, classes):
    if isinstance(node, ast.Name) and isinstance(node.ctx, ast.Load):
        called = isinstance(above, ast.Call) and above.func is node
        if node.id in classes:
            beside = isinstance(above, (ast.ClassDef, ast.ExceptHandler)) or is_call_of(above, ["isinstance"])
            of_base = isinstance(above, ast.Attribute) and above.attr == "__init__"
            if not called and not beside and not of_base and not isinstance(above, ast.Tuple):
                yield f"L18: the class {node.id} is handed on"
        elif node.id in OWN_OF_PYTHON and not called:
            beside = isinstance(above, (ast.keyword, ast.ExceptHandler, ast.ClassDef, ast.Tuple))
            if not beside and not is_call_of(above, ["isinstance"]):
                yield f"L22: {node.id} is kept"


def keyword_faults(node, own):
    if isinstance(node, ast.Call) and node.keywords:
        name = node.func.id if isinstance(node.func, ast.Name) else ""
        allowed = {"sorted": ["key", "reverse"], "min": ["key", "default"], "max": ["key", "default"],
                   "sum": ["start"], "enumerate": ["start"], "zip": ["strict"]}.get(name, [])
        for each in node.keywords:
            if name not in own and each.arg not in allowed:
                yield f"L22: the keyword {each.arg}"
            if each.arg in ["reverse", "strict"] and not isinstance(each.value, ast.Constant):
                yield f"L22: the keyword {each.arg} is not written out"


def binding_faults(node, named, above):
    name = bound_name(node)
    if name in named and not isinstance(node, (ast.FunctionDef, ast.ClassDef)) and not isinstance(above, ast.Module):
        yield f"L15: {name} is called like a class or an import"


def tree_faults(tree):
    above = parents_of(tree)
    named = top_names(tree)
    classes = class_names(tree)
    own = [node.name for node in ast.walk(tree) if isinstance(node, ast.FunctionDef)] + named
    for node in ast.walk(tree):
        faults = list(walk_faults(node, above.get(node))) + list(loop_faults(node)) + list(keyword_faults(node, own))
        faults.extend(list(use_faults(node, above.get(node), classes)))
        faults.extend(list(binding_faults(node, named, above.get(above.get(node)))))
        for each in faults:
            yield f"row {getattr(node, 'lineno', 0)}: {each}"


def field_faults(tree):
    methods = own_methods([ast.unparse(tree)])
    for node in ast.walk(tree):
        if isinstance(node, ast.Attribute) and isinstance(node.ctx, ast.Store):
            if node.attr in methods:
                yield f"L18: {node.attr} is a method and a value"
            if any(hasattr(kind, node.attr) for kind in [str, int, list, dict, set, bytes, tuple]):
                if node.attr not in "count index title find get join lower upper split strip copy add".split():
                    yield f"L26: the value {node.attr}"


def top_value_faults(tree):
    for node in tree.body:
        if isinstance(node, ast.Assign) and isinstance(node.value, (ast.List, ast.Dict)):
            held = [each for each in ast.walk(node.value) if isinstance(each, (ast.List, ast.Dict))]
            if len(held) > 1:
                yield f"L15: row {node.lineno} has a list within a list"


def escape_faults(source):
    for escape in re.findall(r"\\(.)", source.replace("\\\\", "")):
        if escape not in "nt'\"":
            yield f"L27: the escape of {escape}"


def node_faults(node, methods):
    kind = node.__class__.__name__
    if kind not in NODES:
        yield f"L6, L7: {kind}"
    if isinstance(node, ast.FunctionDef):
        yield from def_faults(node)
    if isinstance(node, ast.ClassDef):
        yield from class_faults(node)
    yield from statement_faults(node)
    yield from value_faults(node)
    yield from name_faults(node)
    yield from call_faults(node, methods)


def faults_of(source, methods):
    tree = ast.parse(source)
    faults = list(file_faults(source)) + list(top_faults(tree)) + list(tree_faults(tree))
    faults.extend(list(field_faults(tree)) + list(top_value_faults(tree)) + list(escape_faults(source)))
    for node in ast.walk(tree):
        faults.extend([f"row {getattr(node, 'lineno', 0)}: {each}" for each in node_faults(node, methods)])
    return faults


def own_methods(sources):
    classes = [node for source in sources for node in ast.walk(ast.parse(source)) if isinstance(node, ast.ClassDef)]
    return [each.name for node in classes for each in node.body if isinstance(each, ast.FunctionDef)]


def defined_by(node):
    if isinstance(node, (ast.FunctionDef, ast.ClassDef)):
        return [node.name]
    if isinstance(node, ast.Assign):
        return [target.id for target in node.targets]
    return []


def sources_of():
    told = {}
    for name in sorted(os.listdir(PACKAGE)):
        if name != "__pycache__":
            with open(os.path.join(PACKAGE, name), encoding="utf-8", newline="") as file:
                told[name] = file.read()
    return told


class Language(unittest.TestCase):
    def test_files(self):
        names = list(sources_of())
        self.assertIn("__init__.py", names)
        for name in names:
            self.assertTrue(name == "__init__.py" or re.fullmatch("[a-z][a-z0-9_]*[.]py", name), name)

    def test_each_file(self):
        sources = sources_of()
        methods = own_methods(sources.values())
        for name, source in sources.items():
            self.assertEqual(faults_of(source, methods), [], name)

    def test_no_two_files_draw_from_one_another(self):
        draws = {}
        for name, source in sources_of().items():
            rows = [node for node in ast.parse(source).body if isinstance(node, ast.ImportFrom)]
            draws["ballastway." + name[:-3]] = [node.module for node in rows]
        while draws:
            free = [name for name in draws if not any(each in draws for each in draws[name])]
            self.assertTrue(free, f"these draw from one another: {sorted(draws)}")
            for name in free:
                draws.pop(name)


    def test_each_name_is_drawn_from_the_file_that_defines_it(self):
        sources = sources_of()
        for name, source in sources.items():
            for node in [node for node in ast.parse(source).body if isinstance(node, ast.ImportFrom)]:
                defined = [bound for each in ast.parse(sources[node.module.split(".")[1] + ".py"]).body
                           for bound in defined_by(each)]
                for each in node.names:
                    self.assertIn(each.name, defined, name)
                    used = [use for use in ast.walk(ast.parse(source)) if isinstance(use, ast.Name)]
                    self.assertIn(each.name, [use.id for use in used], f"{name} does not use it")

    def test_no_name_is_a_method_in_one_class_and_a_value_in_another(self):
        whole = "\n".join([source for source in sources_of().values()])
        self.assertEqual(list(field_faults(ast.parse(whole))), [])


class Faults(unittest.TestCase):
    def test_what_is_outside_is_seen(self):
        for source in OUTSIDE:
            self.assertNotEqual(faults_of(source, []), [], source)


if __name__ == "__main__":
    unittest.main()
