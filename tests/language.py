"""Finds, in a file's text, what lies outside those rows of LANGUAGE.md that a reader without judgement can see."""

import ast
import builtins
import re

PLAIN_NODES = """
Module FunctionDef ClassDef Return Assign AugAssign For While If Raise Try ExceptHandler ImportFrom alias Expr Pass
Break Continue BoolOp BinOp UnaryOp Lambda IfExp Dict List Tuple ListComp comprehension Compare Call keyword Constant
JoinedStr FormattedValue Attribute Subscript Slice Name Load Store And Or Add Sub Mult FloorDiv Mod Pow LShift RShift
BitOr BitXor BitAnd Invert Not UAdd USub Eq NotEq Lt LtE Gt GtE Is IsNot In NotIn arguments arg
""".split()
OWN_NAMES = """
len range enumerate zip min max sum abs sorted reversed int str bool list tuple dict set frozenset isinstance ord repr
any all divmod Exception ValueError TypeError KeyError IndexError LookupError ZeroDivisionError ArithmeticError
OverflowError RuntimeError NotImplementedError AttributeError StopIteration True False None
""".split()
OWN_METHODS = """
append clear copy count endswith extend find get index insert isalnum isalpha isdigit islower isspace isupper items join
keys ljust lower lstrip partition pop remove replace reverse rfind rjust rpartition rsplit rstrip setdefault split
splitlines startswith strip update upper values zfill bit_length
""".split()
DUNDER_METHODS = ["__init__", "__eq__", "__repr__", "__str__", "__len__"]
NO_VALUES = """
items keys values pop update append clear extend insert remove reverse setdefault sort args encode format
""".split()
NO_NAMES = "register mro elements open input version_info with_traceback add_note format format_map".split()
NO_WORDS = """
type typing typing_extensions enum Enum IntEnum StrEnum Flag IntFlag Generic Protocol ABC ABCMeta namedtuple NamedTuple
TypedDict TYPE_CHECKING abstractmethod
""".split()
NO_PARTS = ["dataclass", "overload", "contextmanager"]
WALKED = ["zip", "enumerate", "reversed", "range"]
WALKED_METHODS = ["items", "keys", "values"]
WALKERS = ["list", "tuple", "dict", "sorted", "sum", "any", "all", "enumerate", "zip", "min", "max"]


def faults_of_text(text):
    """What a file's rows tell: L10, L14, L17."""
    faults = []
    rows = text.split("\n")
    if len(rows) > 401:
        faults.append(("L10", 401))
    for number, row in enumerate(rows, start=1):
        if len(row) > 120 or "\t" in row:
            faults.append(("L10", number))
        if not all(" " <= sign <= "~" for sign in row):
            faults.append(("L14", number))
        words = re.findall(r"[A-Za-z0-9_]+", row)
        if any(word in NO_WORDS for word in words) or any(part in row for part in NO_PARTS):
            faults.append(("L17", number))
    return faults


def called(node):
    return node.func.id if isinstance(node, ast.Call) and isinstance(node.func, ast.Name) else None


def is_walked(node):
    if isinstance(node, ast.Call) and isinstance(node.func, ast.Attribute):
        return node.func.attr in WALKED_METHODS
    return called(node) in WALKED


def faults_of_walks(node, parent):
    """L23 and L24: what is made to be walked or asked on the spot stands nowhere else."""
    if is_walked(node):
        loop = isinstance(parent, (ast.For, ast.comprehension)) and parent.iter is node
        joins = isinstance(parent, ast.Call) and isinstance(parent.func, ast.Attribute) and parent.func.attr == "join"
        if not (loop or joins or called(parent) in WALKERS):
            return ["L23"]
    if called(node) in ("set", "frozenset"):
        compared = isinstance(parent, ast.Compare)
        reckoned = isinstance(parent, ast.BinOp)
        if not (compared or reckoned or called(parent) in ("sorted", "len")):
            return ["L24"]
    return []


def faults_of_functions(node):
    """L4, L5, L10, L28."""
    faults = []
    if isinstance(node, ast.FunctionDef):
        handed = node.args
        if handed.vararg or handed.kwarg or handed.kwonlyargs or handed.posonlyargs or node.decorator_list:
            faults.append("L4")
        if node.end_lineno - node.lineno + 1 > 40:
            faults.append("L10")
        if node.name == "__init__" and any(isinstance(n, ast.Return) and n.value for n in ast.walk(node)):
            faults.append("L28")
    if isinstance(node, ast.ClassDef):
        inside = all(isinstance(row, (ast.FunctionDef, ast.Pass)) for row in node.body)
        if len(node.bases) > 1 or node.keywords or node.decorator_list or not inside:
            faults.append("L5")
    return faults


def faults_of_statements(node):
    """L6."""
    wrong = (
        isinstance(node, (ast.For, ast.While)) and node.orelse
        or isinstance(node, ast.Try) and node.finalbody
        or isinstance(node, ast.ExceptHandler) and node.type is None
        or isinstance(node, ast.Assign) and (len(node.targets) != 1 or isinstance(node.targets[0], ast.Tuple))
        or isinstance(node, ast.Expr) and not isinstance(node.value, ast.Call)
    )
    return ["L6"] if wrong else []


def is_plain_exponent(node):
    return isinstance(node, ast.Constant) and node.value in range(65)


def faults_of_expressions(node):
    """L7, L20, L27."""
    faults = []
    if isinstance(node, ast.Constant) and not isinstance(node.value, (int, str, type(None))):
        faults.append("L7")
    if isinstance(node, ast.Constant) and isinstance(node.value, str) and "%" in node.value:
        faults.append("L27")
    if isinstance(node, ast.BinOp) and isinstance(node.op, ast.Pow) and not is_plain_exponent(node.right):
        faults.append("L27")
    if isinstance(node, ast.ListComp) and (len(node.generators) != 1 or len(node.generators[0].ifs) > 1):
        faults.append("L7")
    if isinstance(node, ast.FormattedValue) and (not isinstance(node.value, ast.Name) or node.format_spec):
        faults.append("L7")
    if isinstance(node, ast.Dict) and None in node.keys:
        faults.append("L7")
    if isinstance(node, ast.Compare) and any(isinstance(sign, (ast.Is, ast.IsNot)) for sign in node.ops):
        sides = [node.left] + node.comparators
        if not any(isinstance(side, ast.Constant) and side.value in (None, True, False) for side in sides):
            faults.append("L20")
    return faults


def bound_names(node):
    if isinstance(node, ast.Name) and isinstance(node.ctx, ast.Store):
        return [node.id]
    if isinstance(node, ast.arg):
        return [node.arg]
    if isinstance(node, (ast.FunctionDef, ast.ClassDef)):
        return [node.name]
    if isinstance(node, ast.ExceptHandler) and node.name:
        return [node.name]
    return []


def faults_of_names(node, file_names, methods):
    """L8, L12, L15, L17."""
    faults = []
    for name in bound_names(node):
        if name.startswith("_") and name not in DUNDER_METHODS + ["__all__", "__version__"]:
            faults.append("L12")
        if hasattr(builtins, name) and name not in methods:
            faults.append("L15")
        if name in NO_NAMES:
            faults.append("L17")
        if isinstance(node, (ast.Name, ast.arg)) and name in file_names:
            faults.append("L15")
    if isinstance(node, ast.Name) and isinstance(node.ctx, ast.Load):
        if hasattr(builtins, node.id) and node.id not in OWN_NAMES:
            faults.append("L8")
    if isinstance(node, ast.Attribute):
        if node.attr.startswith("_") and node.attr != "__init__":
            faults.append("L12")
        if node.attr in NO_NAMES:
            faults.append("L17")
        if isinstance(node.ctx, ast.Store) and node.attr in NO_VALUES:
            faults.append("L26")
    return faults


def faults_of_methods(node, methods):
    """L25."""
    if isinstance(node, ast.Call) and isinstance(node.func, ast.Attribute):
        name = node.func.attr
        if name not in OWN_METHODS and name not in methods and name != "__init__":
            return ["L25"]
    return []


def is_plain_value(node, functions):
    if isinstance(node, ast.Constant):
        return True
    if isinstance(node, ast.UnaryOp):
        return isinstance(node.operand, ast.Constant)
    if isinstance(node, (ast.List, ast.Tuple)):
        return all(is_plain_value(part, functions) for part in node.elts)
    if isinstance(node, ast.Dict):
        return all(is_plain_value(part, functions) for part in node.keys + node.values)
    return isinstance(node, ast.Name) and node.id in functions


def faults_of_top(tree, package):
    """L2, L3, L15, L16 as far as one file tells them."""
    faults = []
    bound = []
    functions = []
    for place, row in enumerate(tree.body):
        if isinstance(row, ast.Expr):
            if place != 0 or not isinstance(row.value, ast.Constant):
                faults.append(("L3", row.lineno))
        elif isinstance(row, ast.ImportFrom):
            module = row.module or ""
            if row.level or not module.startswith(package + ".") or any(n.name == "*" or n.asname for n in row.names):
                faults.append(("L2", row.lineno))
            bound.extend(n.name for n in row.names)
        elif isinstance(row, (ast.FunctionDef, ast.ClassDef)):
            bound.append(row.name)
            functions.extend([row.name] if isinstance(row, ast.FunctionDef) else [])
        elif isinstance(row, ast.Assign) and is_plain_value(row.value, functions):
            bound.extend(name for node in ast.walk(row) for name in bound_names(node))
        else:
            faults.append(("L3", row.lineno))
    if len(set(bound)) != len(bound):
        faults.append(("L15", 1))
    return faults


def kept_apart(tree):
    """The file's classes and imports: no parameter and no local may be called like one."""
    names = [row.name for row in tree.body if isinstance(row, ast.ClassDef)]
    for row in tree.body:
        if isinstance(row, ast.ImportFrom):
            names.extend(n.name for n in row.names)
    return names


def methods_of(tree):
    classes = [row for row in ast.walk(tree) if isinstance(row, ast.ClassDef)]
    return [row.name for part in classes for row in part.body if isinstance(row, ast.FunctionDef)]


def values_of(tree):
    return [n.attr for n in ast.walk(tree) if isinstance(n, ast.Attribute) and isinstance(n.ctx, ast.Store)]


def faults_of_tree(tree, package, methods):
    faults = faults_of_top(tree, package)
    file_names = kept_apart(tree)
    docstring = tree.body[0] if tree.body and isinstance(tree.body[0], ast.Expr) else None
    for parent in ast.walk(tree):
        for node in ast.iter_child_nodes(parent):
            found = [] if node is docstring else faults_of_statements(node)
            if type(node).__name__ not in PLAIN_NODES:
                found.append("L6 or L7")
            if isinstance(node, (ast.ClassDef, ast.ImportFrom)) and parent is not tree:
                found.append("L2 or L15")
            found += faults_of_functions(node) + faults_of_expressions(node) + faults_of_walks(node, parent)
            found += faults_of_names(node, file_names, methods) + faults_of_methods(node, methods)
            faults.extend((rule, getattr(node, "lineno", parent_line(parent))) for rule in found)
    return faults


def parent_line(parent):
    return getattr(parent, "lineno", 1)


def faults_of(text, package, methods):
    """All faults of one file, as tuples (rule, line); methods are those of the whole package's classes."""
    return faults_of_text(text) + faults_of_tree(ast.parse(text), package, methods)
