"""What ../shared/LANGUAGE.md asks of the package's files, as far as a reading of them shows it.

Each check tells a list of (rule, line). Not every rule is here: L9, L11, L13 and L21 hardly or not at all, L15, L18,
L19, L22, L23, L27 and L28 in part. These are left to the reader's eye.
"""

import ast
import builtins
import re

ALLOWED_BUILTINS = set("""
    len range enumerate zip min max sum abs sorted reversed int str bool list tuple dict set frozenset isinstance ord
    repr any all divmod Exception ValueError TypeError KeyError IndexError LookupError ZeroDivisionError
    ArithmeticError OverflowError RuntimeError NotImplementedError AttributeError StopIteration
""".split())
ALLOWED_METHODS = set("""
    append clear copy count endswith extend find get index insert isalnum isalpha isdigit islower isspace isupper items
    join keys ljust lower lstrip partition pop remove replace reverse rfind rjust rpartition rsplit rstrip setdefault
    split splitlines startswith strip update upper values zfill bit_length
""".split())
ALLOWED_DUNDERS = set("__init__ __eq__ __repr__ __str__ __len__ __all__ __version__".split())
UNUSED_NAMES = set("""
    register mro elements open input version_info with_traceback add_note format format_map
""".split())
UNUSED_WORDS = re.compile(
    r"\b(type|typing|typing_extensions|enum|Enum|IntEnum|StrEnum|Flag|IntFlag|Generic|Protocol|ABC|ABCMeta|namedtuple"
    r"|NamedTuple|TypedDict|TYPE_CHECKING|abstractmethod)\b|dataclass|overload|contextmanager"
)
OWN_VALUES = (str, int, list, tuple, dict, set, bytes)
CHANGING_OR_WALKED = set("""
    items keys values pop update append clear extend insert remove reverse setdefault sort args encode format
""".split())
VALUES_LIKE_METHODS = set("count index title find get join lower upper split strip copy add".split())
KEYWORDS = {"sorted": {"key", "reverse"}, "min": {"key", "default"}, "max": {"key", "default"}, "sum": {"start"},
            "enumerate": {"start"}, "zip": {"strict"}}
WALKED_AT_ONCE = {"zip", "enumerate", "reversed", "range", "items", "keys", "values"}
WALKING = {"list", "tuple", "dict", "sorted", "sum", "any", "all", "enumerate", "zip", "min", "max", "join"}
PLAIN_FILE = re.compile(r"[a-z][a-z0-9_]*\.py")
UNUSED_FILE = re.compile(r"test|tests|testing|test_.*|site|conftest|sitecustomize|usercustomize")
STATEMENTS = (
    ast.Assign, ast.AugAssign, ast.If, ast.While, ast.For, ast.Return, ast.Break, ast.Continue, ast.Pass, ast.Raise,
    ast.Try, ast.Expr, ast.FunctionDef, ast.ClassDef, ast.ImportFrom,
)
EXPRESSIONS = (
    ast.Constant, ast.Name, ast.List, ast.Tuple, ast.Dict, ast.Set, ast.BinOp, ast.UnaryOp, ast.BoolOp, ast.Compare,
    ast.IfExp, ast.Call, ast.Attribute, ast.Subscript, ast.Slice, ast.ListComp, ast.JoinedStr, ast.FormattedValue,
    ast.Lambda,
)


def faults_of_file(name, text, own_methods):
    tree = ast.parse(text)
    nodes = list(ast.walk(tree))
    found = file_name_faults(name) + sign_faults(text) + top_faults(tree)
    for node in nodes:
        for check in (kind_faults, def_faults, name_faults, value_faults, call_faults):
            found.extend((rule, getattr(node, "lineno", 0)) for rule in check(node))
        found.extend((rule, node.lineno) for rule in method_faults(node, own_methods))
    return found + set_faults(nodes) + walk_faults(nodes) + local_faults(tree)


def faults_between_files(texts):
    """L18: no name is a method in one class and a value in another."""
    methods = set().union(*[methods_in(text) for text in texts])
    values = set().union(*[values_in(text) for text in texts])
    return [("L18", name) for name in sorted(methods & values)]


def file_name_faults(name):
    if name in ("__init__.py", "__main__.py"):
        return []
    stem = name.removesuffix(".py")
    plain = PLAIN_FILE.fullmatch(name) and not UNUSED_FILE.fullmatch(stem) and not hasattr(builtins, stem)
    return [] if plain and not UNUSED_WORDS.search(stem) else [("L14", 0)]


def sign_faults(text):
    found = [("L10", 0)] if len(text.splitlines()) > 400 else []
    for number, line in enumerate(text.split("\n"), 1):
        if len(line) > 120:
            found.append(("L10", number))
        if any(not " " <= sign <= "~" for sign in line):
            found.append(("L14", number))
        if UNUSED_WORDS.search(line):
            found.append(("L17", number))
    return found


def top_faults(tree):
    found = []
    bound = []
    for place, node in enumerate(tree.body):
        if isinstance(node, ast.ImportFrom):
            bound.extend(alias.asname or alias.name for alias in node.names)
        elif isinstance(node, (ast.FunctionDef, ast.ClassDef)):
            bound.append(node.name)
        elif isinstance(node, ast.Assign):
            bound.append(getattr(node.targets[0], "id", ""))
        elif place or ast.get_docstring(tree) is None:
            found.append(("L3", node.lineno))
    if len(bound) > len(set(bound)):
        found.append(("L15", 0))
    below = [node for top in tree.body for node in ast.walk(top) if node is not top]
    found.extend(("L2", node.lineno) for node in below if isinstance(node, ast.ImportFrom))
    found.extend(("L15", node.lineno) for node in below if isinstance(node, ast.ClassDef))
    return found


def kind_faults(node):
    if isinstance(node, ast.stmt) and not isinstance(node, STATEMENTS):
        yield "L6"
    if isinstance(node, ast.expr) and not isinstance(node, EXPRESSIONS):
        yield "L7"
    if isinstance(node, ast.Assign) and len(node.targets) > 1:
        yield "L6"
    if isinstance(node, (ast.For, ast.While)) and node.orelse:
        yield "L6"
    if isinstance(node, ast.Try) and node.finalbody:
        yield "L6"
    if isinstance(node, ast.ExceptHandler) and (node.type is None or named(node.type) in ("Exception", "TypeError")):
        yield "L19"
    if isinstance(node, ast.ImportFrom) and (node.level or not node.module.startswith(("turnhall.", "__future__"))):
        yield "L2"
    if isinstance(node, ast.ImportFrom) and any(alias.name == "*" for alias in node.names):
        yield "L2"
    if isinstance(node, ast.ListComp) and (len(node.generators) > 1 or len(node.generators[0].ifs) > 1):
        yield "L7"


def def_faults(node):
    if isinstance(node, (ast.FunctionDef, ast.ClassDef)) and node.decorator_list:
        yield "L4"
    if isinstance(node, ast.FunctionDef) and node.end_lineno - node.lineno + 1 > 40:
        yield "L10"
    if isinstance(node, ast.arguments) and (node.vararg or node.kwarg or node.kwonlyargs or node.posonlyargs):
        yield "L4"
    if isinstance(node, ast.ClassDef):
        if len(node.bases) > 1 or node.keywords:
            yield "L5"
        if any(not isinstance(part, (ast.FunctionDef, ast.Pass)) for part in node.body):
            yield "L5"
        methods = [part.name for part in node.body if isinstance(part, ast.FunctionDef)]
        if len(methods) > len(set(methods)):
            yield "L18"
        for name in methods:
            if is_of_own_values(name) and name not in ALLOWED_METHODS | ALLOWED_DUNDERS | {"add", "discard"}:
                yield "L26"
        for part in node.body:
            if getattr(part, "name", "") == "__init__":
                yield from ("L28" for inner in ast.walk(part) if isinstance(inner, ast.Return) and inner.value)


def name_faults(node):
    bound = bound_name(node)
    if bound is not None:
        if bound.startswith("_") and bound not in ALLOWED_DUNDERS:
            yield "L12"
        # An object's method or value may be called like one of Python's own names; a plain name may not.
        if hasattr(builtins, bound) and not isinstance(node, ast.Attribute) and bound not in ALLOWED_DUNDERS:
            yield "L15"
    used = named(node)
    if isinstance(node, ast.Name) and hasattr(builtins, used) and used not in ALLOWED_BUILTINS:
        yield "L8"
    if used in UNUSED_NAMES or bound in UNUSED_NAMES:
        yield "L17"
    if isinstance(node, ast.Attribute) and node.attr.startswith("_") and node.attr != "__init__":
        yield "L12"


def value_faults(node):
    if isinstance(node, ast.Constant):
        if isinstance(node.value, (float, complex, bytes)):
            yield "L7"
        if isinstance(node.value, str) and "%" in node.value:
            yield "L27"
    if isinstance(node, ast.BinOp) and isinstance(node.op, (ast.Div, ast.MatMult)):
        yield "L7"
    if isinstance(node, ast.BinOp) and isinstance(node.op, ast.Pow) and not isinstance(node.right, ast.Constant):
        yield "L27"
    if isinstance(node, ast.Compare) and any(isinstance(sign, (ast.Is, ast.IsNot)) for sign in node.ops):
        if not any(isinstance(side, ast.Constant) and side.value in (None, True, False)
                   for side in [node.left, *node.comparators]):
            yield "L20"


def method_faults(node, own_methods):
    if isinstance(node, ast.Call) and isinstance(node.func, ast.Attribute):
        if node.func.attr not in ALLOWED_METHODS | own_methods | {"__init__"}:
            yield "L25"


def call_faults(node):
    if isinstance(node, ast.Raise) and not isinstance(node.exc, ast.Call):
        yield "L19"
    if isinstance(node, ast.Call) and isinstance(node.func, ast.Name) and hasattr(builtins, node.func.id):
        if not {word.arg for word in node.keywords} <= KEYWORDS.get(node.func.id, set()):
            yield "L22"
    if isinstance(node, ast.Attribute) and isinstance(node.ctx, ast.Store):
        if node.attr in CHANGING_OR_WALKED or is_of_own_values(node.attr) and node.attr not in VALUES_LIKE_METHODS:
            yield "L26"


def walk_faults(nodes):
    good = {}
    for node in nodes:
        if isinstance(node, (ast.For, ast.comprehension)):
            good[node.iter] = True
        elif isinstance(node, ast.Call) and named(node.func) in WALKING:
            good.update((part, True) for part in (node.args if named(node.func) == "zip" else node.args[:1]))
    walked = [node for node in nodes if isinstance(node, ast.Call) and named(node.func) in WALKED_AT_ONCE]
    return [("L23", node.lineno) for node in walked if node not in good]


def local_faults(tree):
    outer = {node.name for node in tree.body if isinstance(node, ast.ClassDef)}
    for node in tree.body:
        if isinstance(node, ast.ImportFrom):
            outer.update(alias.asname or alias.name for alias in node.names)
    defs = [node for node in ast.walk(tree) if isinstance(node, ast.FunctionDef)]
    inner = [node for top in defs for node in ast.walk(top) if isinstance(node, (ast.Name, ast.arg))]
    return [("L15", node.lineno) for node in inner if bound_name(node) in outer]


def is_of_own_values(name):
    return any(hasattr(kind, name) for kind in OWN_VALUES)


def set_faults(nodes):
    good = {}
    for node in nodes:
        if isinstance(node, ast.Compare):
            good.update((side, True) for side in [node.left, *node.comparators])
        elif isinstance(node, ast.Call) and named(node.func) in ("sorted", "len") and not node.keywords:
            good.update((part, True) for part in node.args)
    for node in nodes:
        if isinstance(node, ast.BinOp) and node in good:
            good.update({node.left: True, node.right: True})
    return [("L24", node.lineno) for node in nodes if is_set(node) and node not in good]


def is_set(node):
    return isinstance(node, ast.Set) or isinstance(node, ast.Call) and named(node.func) in ("set", "frozenset")


def named(node):
    return getattr(node, "id", None) or getattr(node, "attr", None)


def bound_name(node):
    if isinstance(node, (ast.FunctionDef, ast.ClassDef)):
        return node.name
    if isinstance(node, ast.arg):
        return node.arg
    if isinstance(node, (ast.Name, ast.Attribute)) and isinstance(node.ctx, ast.Store):
        return named(node)
    return None


def methods_in(text):
    classes = [node for node in ast.parse(text).body if isinstance(node, ast.ClassDef)]
    return {part.name for node in classes for part in node.body if isinstance(part, ast.FunctionDef)}


def values_in(text):
    nodes = [node for node in ast.walk(ast.parse(text)) if isinstance(node, ast.Attribute)]
    return {node.attr for node in nodes if isinstance(node.ctx, ast.Store)}


def names_at_top(text):
    tops = ast.parse(text).body
    defs = [node.name for node in tops if isinstance(node, (ast.FunctionDef, ast.ClassDef))]
    return set(defs + [node.targets[0].id for node in tops if isinstance(node, ast.Assign)])


def drawn_from(text):
    rows = [node for node in ast.parse(text).body if isinstance(node, ast.ImportFrom) and node.module != "__future__"]
    return [(node.module, alias.name) for node in rows for alias in node.names]
