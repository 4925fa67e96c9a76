"""Looks at one file of the package and tells where it leaves ../shared/LANGUAGE.md, as far as its form shows it."""

import ast
import builtins
import re

PACKAGE = "stepgrove"

OWN_NAMES = (
    "len range enumerate zip min max sum abs sorted reversed int str bool list tuple dict set frozenset isinstance "
    "ord repr any all divmod Exception ValueError TypeError KeyError IndexError LookupError ZeroDivisionError "
    "ArithmeticError OverflowError RuntimeError NotImplementedError AttributeError StopIteration"
).split()

METHODS = (
    "append clear copy count endswith extend find get index insert isalnum isalpha isdigit islower isspace isupper "
    "items join keys ljust lower lstrip partition pop remove replace reverse rfind rjust rpartition rsplit rstrip "
    "setdefault split splitlines startswith strip update upper values zfill bit_length"
).split()

UNUSED_NAMES = (
    "register mro elements open input version_info with_traceback add_note attrgetter breakpoint builtins compile "
    "copyright credits delattr dir eval exec exit gc getattr globals hasattr help id importlib license locals "
    "methodcaller os quit setattr super type vars sys format format_map"
).split()

UNUSED_WORDS = (
    "type typing typing_extensions enum Enum IntEnum StrEnum Flag IntFlag Generic Protocol ABC ABCMeta namedtuple "
    "NamedTuple TypedDict TYPE_CHECKING abstractmethod"
).split()

# Python's own that are walked on the spot, and what may stand around them.
WALKED = ("zip", "enumerate", "reversed", "range")
WALKED_METHODS = ("items", "keys", "values")
WALKERS = "list tuple dict sorted sum any all enumerate zip min max join".split()

KEYWORDS = {
    "sorted": ("key", "reverse"), "min": ("key", "default"), "max": ("key", "default"), "sum": ("start",),
    "enumerate": ("start",), "zip": ("strict",),
}

UNUSED_PARTS = ("dataclass", "overload", "contextmanager")

METHODS_WITH_UNDERSCORES = ("__init__", "__eq__", "__repr__", "__str__", "__len__")

STATEMENTS = (
    ast.Module, ast.FunctionDef, ast.ClassDef, ast.ImportFrom, ast.Assign, ast.AugAssign, ast.If, ast.While, ast.For,
    ast.Return, ast.Break, ast.Continue, ast.Pass, ast.Raise, ast.Try, ast.Expr,
)

EXPRESSIONS = (
    ast.BoolOp, ast.BinOp, ast.UnaryOp, ast.Lambda, ast.IfExp, ast.Dict, ast.Set, ast.ListComp, ast.Compare, ast.Call,
    ast.JoinedStr, ast.FormattedValue, ast.Constant, ast.Attribute, ast.Subscript, ast.Name, ast.List, ast.Tuple,
    ast.Slice,
)


def faults_of(source):
    tree = ast.parse(source)
    found = text_faults(source) + top_faults(tree) + walk_faults(tree)
    for node in ast.walk(tree):
        for rule in node_faults(node):
            found.append((rule, getattr(node, "lineno", 1)))
    return found


def drawn_from(source):
    """The names that a file imports, each behind the module that it is drawn from."""
    drawn = []
    for node in ast.walk(ast.parse(source)):
        if isinstance(node, ast.ImportFrom):
            drawn.extend((node.module, alias.name) for alias in node.names)
    return drawn


def names_defined(source):
    names = []
    for node in ast.parse(source).body:
        if isinstance(node, (ast.FunctionDef, ast.ClassDef)):
            names.append(node.name)
        elif isinstance(node, ast.Assign):
            names.extend(target.id for target in node.targets if isinstance(target, ast.Name))
    return names


def text_faults(source):
    found = []
    rows = source.split("\n")
    if len(rows) > 400:
        found.append(("L10", len(rows)))
    for number, row in enumerate(rows, start=1):
        if len(row) > 120:
            found.append(("L10", number))
        if any(not " " <= sign <= "~" for sign in row):
            found.append(("L14", number))
        words = re.findall(r"\w+", row)
        if any(word in UNUSED_WORDS for word in words) or any(part in row for part in UNUSED_PARTS):
            found.append(("L17", number))
    return found


def top_faults(tree):
    found = []
    bound = []
    for k, node in enumerate(tree.body):
        if isinstance(node, ast.Assign):
            bound.extend(target.id for target in node.targets if isinstance(target, ast.Name))
            found.extend((rule, node.lineno) for rule in top_value_faults(node.value))
        elif isinstance(node, (ast.FunctionDef, ast.ClassDef)):
            bound.append(node.name)
        elif isinstance(node, ast.ImportFrom):
            bound.extend(alias.asname or alias.name for alias in node.names)
        elif not (k == 0 and is_docstring(node)):
            found.append(("L3", node.lineno))
    if len(set(bound)) != len(bound):
        found.append(("L15", 1))
    for node in ast.walk(tree):
        if is_docstring(node) and node not in tree.body:
            found.append(("L6", node.lineno))
        if isinstance(node, (ast.FunctionDef, ast.Lambda)):
            if any(name in bound or name in dir(builtins) for name in locals_of(node)):
                found.append(("L15", node.lineno))
    return found


def called(node):
    """The name or the method that a call calls; None of what is no call."""
    if not isinstance(node, ast.Call):
        return None
    return node.func.attr if isinstance(node.func, ast.Attribute) else getattr(node.func, "id", None)


def walk_faults(tree):
    """What is walked on the spot stands where it is walked, and sets where they are asked at once."""
    found = []
    for around in ast.walk(tree):
        for node in ast.iter_child_nodes(around):
            name = called(node)
            method = isinstance(getattr(node, "func", None), ast.Attribute)
            if name in (WALKED_METHODS if method else WALKED):
                walked = isinstance(around, (ast.For, ast.comprehension)) and around.iter is node
                if not walked and not (called(around) in WALKERS and node in around.args):
                    found.append(("L23", node.lineno))
            if isinstance(node, ast.Set) or (name == "set" and not method):
                if not isinstance(around, (ast.Compare, ast.BinOp)) and called(around) not in ("sorted", "len"):
                    found.append(("L24", node.lineno))
    return found


def top_value_faults(value):
    """A value of a file's top is plain, and a list or dict of it holds no other one."""
    rules = []
    for node in ast.walk(value):
        if isinstance(node, ast.expr) and not isinstance(node, (ast.Constant, ast.List, ast.Tuple, ast.Dict, ast.Name)):
            rules.append("L3")
        if isinstance(node, (ast.List, ast.Dict)) and node is not value:
            rules.append("L15")
    return rules


def locals_of(function):
    names = [argument.arg for argument in function.args.args]
    for node in ast.walk(function):
        if isinstance(node, ast.Name) and isinstance(node.ctx, ast.Store):
            names.append(node.id)
    return names


def is_docstring(node):
    return isinstance(node, ast.Expr) and isinstance(node.value, ast.Constant) and isinstance(node.value.value, str)


def node_faults(node):
    rules = []
    if isinstance(node, ast.stmt) and not isinstance(node, STATEMENTS):
        rules.append("L6")
    if isinstance(node, ast.expr) and not isinstance(node, EXPRESSIONS):
        rules.append("L7")
    looks = (
        import_faults, def_faults, keyword_faults, method_faults, class_faults, statement_faults, expression_faults,
        name_faults,
    )
    for look in looks:
        rules.extend(look(node))
    return rules


def import_faults(node):
    if isinstance(node, ast.Import):
        return ["L2"]
    if not isinstance(node, ast.ImportFrom):
        return []
    own = node.level == 0 and (node.module or "").startswith(PACKAGE + ".")
    return [] if own and all(alias.name != "*" for alias in node.names) else ["L2"]


def def_faults(node):
    if not isinstance(node, (ast.FunctionDef, ast.Lambda)):
        return []
    rules = []
    written = node.args
    if written.vararg or written.kwarg or written.kwonlyargs or written.posonlyargs:
        rules.append("L4")
    if isinstance(node, ast.FunctionDef):
        if node.decorator_list:
            rules.append("L4")
        if node.end_lineno - node.lineno + 1 > 40:
            rules.append("L10")
        if node.returns or any(argument.annotation for argument in written.args):
            rules.append("L21")
    return rules


def keyword_faults(node):
    if not isinstance(node, ast.Call) or called(node) not in OWN_NAMES + METHODS:
        return []
    taken = KEYWORDS.get(called(node), ())
    return ["L22" for keyword in node.keywords if keyword.arg not in taken]


def method_faults(node):
    """__init__ gives back nothing; the others with two underscores store nothing."""
    if not isinstance(node, ast.FunctionDef) or node.name not in METHODS_WITH_UNDERSCORES:
        return []
    for inner in ast.walk(node):
        if node.name == "__init__" and isinstance(inner, ast.Return) and inner.value is not None:
            return ["L28"]
        if node.name != "__init__" and isinstance(inner, (ast.Attribute, ast.AugAssign)):
            if isinstance(getattr(inner, "ctx", ast.Store()), ast.Store):
                return ["L28"]
    return []


def class_faults(node):
    if not isinstance(node, ast.ClassDef):
        return []
    plain = all(isinstance(part, (ast.FunctionDef, ast.Pass)) for part in node.body)
    return [] if plain and len(node.bases) <= 1 and not node.keywords and not node.decorator_list else ["L5"]


def statement_faults(node):
    rules = []
    if isinstance(node, ast.Assign) and len(node.targets) != 1:
        rules.append("L6")
    if isinstance(node, ast.Expr) and not isinstance(node.value, ast.Call) and not is_docstring(node):
        rules.append("L6")
    if isinstance(node, (ast.For, ast.While)) and node.orelse:
        rules.append("L6")
    if isinstance(node, ast.Try):
        if node.finalbody:
            rules.append("L6")
        for handler in node.handlers:
            if not isinstance(handler.type, ast.Name) or handler.type.id in ("Exception", "TypeError"):
                rules.append("L19")
            elif handler.type.id in ("ValueError", "LookupError") and not is_bare_try(node):
                rules.append("L19")
    if isinstance(node, ast.Raise) and not isinstance(node.exc, ast.Call):
        rules.append("L19")
    return rules


def is_bare_try(node):
    """Nothing is called within but what ValueError may be taken of."""
    calls = [called(inner) for part in node.body for inner in ast.walk(part) if isinstance(inner, ast.Call)]
    return len(node.body) == 1 and all(name in ("int", "str", "index", "remove") for name in calls)


def expression_faults(node):
    rules = []
    if isinstance(node, ast.Constant) and not isinstance(node.value, (int, str, type(None))):
        rules.append("L7")
    if isinstance(node, (ast.BinOp, ast.AugAssign)):
        if isinstance(node.op, (ast.Div, ast.MatMult)):
            rules.append("L7")
        if isinstance(node.op, ast.Pow):
            right = node.right if isinstance(node, ast.BinOp) else node.value
            if not (isinstance(right, ast.Constant) and 0 <= right.value <= 64):
                rules.append("L27")
    if isinstance(node, ast.ListComp) and (len(node.generators) != 1 or len(node.generators[0].ifs) > 1):
        rules.append("L7")
    if isinstance(node, ast.Compare) and any(isinstance(op, (ast.Is, ast.IsNot)) for op in node.ops):
        sides = [node.left] + node.comparators
        if not any(isinstance(side, ast.Constant) and side.value in (None, True, False) for side in sides):
            rules.append("L20")
    return rules


def name_faults(node):
    rules = []
    if isinstance(node, ast.Name) and isinstance(node.ctx, ast.Load):
        if node.id in dir(builtins) and node.id not in OWN_NAMES:
            rules.append("L8")
    for name in written_names(node):
        if name.startswith("_") and name not in METHODS_WITH_UNDERSCORES:
            rules.append("L12")
        if name in UNUSED_NAMES:
            rules.append("L17")
    if isinstance(node, ast.Call) and isinstance(node.func, ast.Attribute):
        for kind in (str, int, list, dict, set, bytes):
            if hasattr(kind, node.func.attr) and node.func.attr not in METHODS + ["add", "discard"]:
                rules.append("L25")
                break
    return rules


def written_names(node):
    if isinstance(node, ast.Name):
        return [node.id]
    if isinstance(node, ast.Attribute):
        return [node.attr]
    if isinstance(node, ast.arg):
        return [node.arg]
    if isinstance(node, (ast.FunctionDef, ast.ClassDef)):
        return [node.name]
    return []
