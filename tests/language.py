"""Finds what in a file's text lies outside the rules of LANGUAGE.md that can be seen file by file."""

import ast
import builtins
import re

OWN_NAMES = set(
    "len range enumerate zip min max sum abs sorted reversed int str bool list tuple dict set frozenset isinstance"
    " ord repr any all divmod Exception ValueError TypeError KeyError IndexError LookupError ZeroDivisionError"
    " ArithmeticError OverflowError RuntimeError NotImplementedError AttributeError StopIteration".split()
)
OWN_METHODS = set(
    "append clear copy count endswith extend find get index insert isalnum isalpha isdigit islower isspace isupper"
    " items join keys ljust lower lstrip partition pop remove replace reverse rfind rjust rpartition rsplit rstrip"
    " setdefault split splitlines startswith strip update upper values zfill bit_length".split()
)
PYTHON_ATTRIBUTES = set().union(*[dir(kind) for kind in (str, int, list, tuple, dict, set, frozenset, bytes)])
BAD_VALUES = set(
    "items keys values pop update append clear extend insert remove reverse setdefault sort args encode format".split()
)
GOOD_VALUES = set("count index title find get join lower upper split strip copy add".split())
NOWHERE = set("register mro elements open input version_info with_traceback add_note format format_map".split())
NOT_NAMES = set(
    "attrgetter breakpoint builtins compile copyright credits delattr dir eval exec exit gc getattr globals hasattr"
    " help id importlib license locals methodcaller os quit setattr super type vars".split()
)
BAD_WORDS = re.compile(
    r"\b(type|typing|typing_extensions|enum|Enum|IntEnum|StrEnum|Flag|IntFlag|Generic|Protocol|ABC|ABCMeta"
    r"|namedtuple|NamedTuple|TypedDict|TYPE_CHECKING|abstractmethod)\b|dataclass|overload|contextmanager"
)
DUNDERS = ("__init__", "__eq__", "__repr__", "__str__", "__len__")
TOP_KINDS = (ast.ImportFrom, ast.FunctionDef, ast.ClassDef, ast.Assign)
STATEMENTS = (
    ast.FunctionDef, ast.ClassDef, ast.Return, ast.Assign, ast.AugAssign, ast.For, ast.While, ast.If, ast.Raise,
    ast.Try, ast.ImportFrom, ast.Expr, ast.Pass, ast.Break, ast.Continue,
)
EXPRESSIONS = (
    ast.BoolOp, ast.BinOp, ast.UnaryOp, ast.Lambda, ast.IfExp, ast.Dict, ast.Set, ast.ListComp, ast.Compare, ast.Call,
    ast.FormattedValue, ast.JoinedStr, ast.Constant, ast.Attribute, ast.Subscript, ast.Name, ast.List, ast.Tuple,
    ast.Slice,
)
KEYWORDS = {
    "sorted": ("key", "reverse"), "min": ("key", "default"), "max": ("key", "default"), "sum": ("start",),
    "enumerate": ("start",), "zip": ("strict",),
}
WALKS = ("zip", "enumerate", "reversed", "range")


def faults(text, package="roadnet"):
    found = signs_and_sizes(text)
    tree = ast.parse(text)
    found.extend(top_faults(tree, package))
    own = own_methods(tree)
    for node in ast.walk(tree):
        for rule in RULES:
            for word in rule(node, own):
                found.append((word, getattr(node, "lineno", 0)))
    return sorted(set(found))


def own_methods(tree):
    classes = [node for node in ast.walk(tree) if isinstance(node, ast.ClassDef)]
    return {part.name for node in classes for part in node.body if isinstance(part, ast.FunctionDef)}


def signs_and_sizes(text):
    found = []
    lines = text.split("\n")
    if len(lines) > 401:
        found.append(("L10", 401))
    for number, line in enumerate(lines, 1):
        if len(line) > 120:
            found.append(("L10", number))
        if not all(" " <= sign <= "~" for sign in line):
            found.append(("L14", number))
        if BAD_WORDS.search(line):
            found.append(("L17", number))
    return found


def top_faults(tree, package):
    found = []
    bound = []
    for place, node in enumerate(tree.body):
        is_doc = place == 0 and isinstance(node, ast.Expr) and isinstance(node.value, ast.Constant)
        if isinstance(node, ast.Import):
            found.append(("L2", node.lineno))
        elif not is_doc and not isinstance(node, TOP_KINDS):
            found.append(("L3", node.lineno))
        if isinstance(node, ast.ImportFrom):
            if node.level or not node.module.startswith(package + ".") or node.names[0].name == "*":
                found.append(("L2", node.lineno))
            bound.extend(alias.asname or alias.name for alias in node.names)
        elif isinstance(node, (ast.FunctionDef, ast.ClassDef)):
            bound.append(node.name)
        elif isinstance(node, ast.Assign):
            bound.extend(part.id for part in node.targets if isinstance(part, ast.Name))
    if len(bound) != len(set(bound)):
        found.append(("L15", 1))
    return found


def statement_faults(node, own):
    if isinstance(node, ast.stmt) and not isinstance(node, STATEMENTS):
        yield "L6"
    if isinstance(node, (ast.For, ast.While)) and node.orelse:
        yield "L6"
    if isinstance(node, ast.Try) and node.finalbody:
        yield "L6"
    if isinstance(node, ast.Assign) and len(node.targets) > 1:
        yield "L6"
    if isinstance(node, ast.Raise) and node.exc is not None and not isinstance(node.exc, ast.Call):
        yield "L19"
    if isinstance(node, (ast.FunctionDef, ast.ClassDef, ast.If, ast.For, ast.While, ast.Try)):
        if any(isinstance(part, ast.Expr) and not isinstance(part.value, ast.Call) for part in node.body):
            yield "L6"


def expression_faults(node, own):
    if isinstance(node, ast.expr) and not isinstance(node, EXPRESSIONS):
        yield "L7"
    if isinstance(node, (ast.Div, ast.MatMult)):
        yield "L7"
    if isinstance(node, ast.Constant) and not isinstance(node.value, (int, str, bool)) and node.value is not None:
        yield "L7"
    if isinstance(node, ast.ListComp) and (len(node.generators) > 1 or len(node.generators[0].ifs) > 1):
        yield "L7"
    if isinstance(node, ast.FormattedValue):
        if not isinstance(node.value, ast.Name) or node.format_spec or node.conversion not in (-1, ord("r")):
            yield "L7"
    if isinstance(node, ast.Constant) and isinstance(node.value, str) and "%" in node.value:
        yield "L27"
    if isinstance(node, ast.Compare):
        for operator, right in zip(node.ops, node.comparators):
            if isinstance(operator, (ast.Is, ast.IsNot)) and not isinstance(right, ast.Constant):
                yield "L20"


def function_faults(node, own):
    if not isinstance(node, ast.FunctionDef):
        return
    if node.decorator_list or node.args.vararg or node.args.kwarg or node.args.kwonlyargs or node.args.posonlyargs:
        yield "L4"
    if node.end_lineno - node.lineno + 1 > 40:
        yield "L10"
    if node.returns or any(part.annotation for part in node.args.args):
        yield "L21"


def class_faults(node, own):
    if not isinstance(node, ast.ClassDef):
        return
    if node.decorator_list or node.keywords or len(node.bases) > 1:
        yield "L5"
    if not all(isinstance(part, (ast.FunctionDef, ast.Pass)) for part in node.body):
        yield "L5"


def bound_names(node):
    if isinstance(node, ast.Name) and isinstance(node.ctx, ast.Store):
        return [node.id]
    if isinstance(node, ast.arg):
        return [node.arg]
    if isinstance(node, (ast.FunctionDef, ast.ClassDef)):
        return [node.name]
    return []


def name_faults(node, own):
    for name in bound_names(node):
        if not re.fullmatch(r"[A-Za-z][A-Za-z0-9_]*", name) and name not in DUNDERS:
            yield "L12"
        if name in NOWHERE or name in NOT_NAMES:
            yield "L17"
        if hasattr(builtins, name) and name not in own:
            yield "L15"
    if isinstance(node, ast.Name) and isinstance(node.ctx, ast.Load):
        if node.id in NOWHERE or node.id in NOT_NAMES:
            yield "L17"
        if hasattr(builtins, node.id) and node.id not in OWN_NAMES:
            yield "L8"


def attribute_faults(node, own):
    if not isinstance(node, ast.Attribute):
        return
    if node.attr in NOWHERE:
        yield "L17"
    if node.attr.startswith("_") and node.attr != "__init__":
        yield "L12"
    if isinstance(node.ctx, ast.Store):
        if node.attr in BAD_VALUES or (node.attr in PYTHON_ATTRIBUTES and node.attr not in GOOD_VALUES):
            yield "L26"
    elif node.attr in PYTHON_ATTRIBUTES and node.attr not in OWN_METHODS | GOOD_VALUES | own | {"__init__"}:
        yield "L25"


def call_faults(node, own):
    if isinstance(node, ast.Call):
        called = node.func.id if isinstance(node.func, ast.Name) else None
        for keyword in node.keywords:
            if keyword.arg is None or (called in OWN_NAMES and keyword.arg not in KEYWORDS.get(called, ())):
                yield "L22"
    if isinstance(node, (ast.Assign, ast.Return)) and isinstance(node.value, ast.Call):
        called = node.value.func
        if isinstance(called, ast.Name) and called.id in WALKS:
            yield "L23"
        if isinstance(called, ast.Attribute) and called.attr in ("items", "keys", "values"):
            yield "L23"
        if isinstance(called, ast.Name) and called.id in ("set", "frozenset"):
            yield "L24"


def handler_faults(node, own):
    if isinstance(node, ast.ExceptHandler):
        names = [part.id for part in ast.walk(node.type) if isinstance(part, ast.Name)] if node.type else []
        if not names or "Exception" in names or "TypeError" in names:
            yield "L19"


RULES = (
    statement_faults, expression_faults, function_faults, class_faults, name_faults, attribute_faults, call_faults,
    handler_faults,
)


def mixed_names(texts):
    """The names that are a method in one class of the package and a value in another (L18)."""
    methods = set()
    values = set()
    for text in texts:
        tree = ast.parse(text)
        methods |= own_methods(tree)
        for node in ast.walk(tree):
            if isinstance(node, ast.Attribute) and isinstance(node.ctx, ast.Store):
                values.add(node.attr)
    return sorted(methods & values)
