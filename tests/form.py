"""Looks through the package's files for what LANGUAGE.md rules out, as far as a plain walk can see it.

faults(name, source, methods) tells a list of texts, each led by its rule; none where all is well.
"""

import ast
import builtins
import re

PACKAGE = "measurewise"
ERRORS = ("Exception ValueError TypeError KeyError IndexError LookupError ZeroDivisionError ArithmeticError "
          "OverflowError RuntimeError NotImplementedError AttributeError StopIteration").split()
OWN = ("len range enumerate zip min max sum abs sorted reversed int str bool list tuple dict set frozenset "
       "isinstance ord repr any all divmod").split() + ERRORS
METHODS = ("append clear copy count endswith extend find get index insert isalnum isalpha isdigit islower isspace "
           "isupper items join keys ljust lower lstrip partition pop remove replace reverse rfind rjust rpartition "
           "rsplit rstrip setdefault split splitlines startswith strip update upper values zfill bit_length").split()
UNDERSCORED = "__init__ __eq__ __repr__ __str__ __len__".split()
SILENT = ("register mro elements open input version_info with_traceback add_note attrgetter breakpoint builtins "
          "compile copyright credits delattr dir eval exec exit gc getattr globals hasattr help id importlib license "
          "locals methodcaller os quit setattr super type vars sys").split()
NO_WORDS = ("type typing typing_extensions enum Enum IntEnum StrEnum Flag IntFlag Generic Protocol ABC ABCMeta "
            "namedtuple NamedTuple TypedDict TYPE_CHECKING abstractmethod").split()
NO_PARTS = ("dataclass", "overload", "contextmanager")
NO_VALUES = ("items keys values pop update append clear extend insert remove reverse setdefault sort args encode "
             "format format_map mro").split()
NO_FILES = ("test", "tests", "testing", "site", "conftest", "sitecustomize", "usercustomize")

NODES = tuple(getattr(ast, name) for name in (
    "Module Import ImportFrom alias FunctionDef arguments arg ClassDef Lambda Assign AugAssign If While For Return "
    "Break Continue Pass Raise Try ExceptHandler Expr Constant List Tuple Dict Set BinOp UnaryOp BoolOp Compare IfExp "
    "Call keyword Attribute Subscript Slice ListComp comprehension JoinedStr FormattedValue Name Load Store "
    "Add Sub Mult FloorDiv Mod Pow BitAnd BitOr BitXor LShift RShift Invert USub UAdd Not And Or "
    "Eq NotEq Lt LtE Gt GtE In NotIn Is IsNot").split())


def faults(name, source, methods=()):
    tree = ast.parse(source)
    found = file_faults(name, source) + top_faults(tree)
    for node in ast.walk(tree):
        for check in CHECKS:
            found.extend(f"{fault} (line {getattr(node, 'lineno', 0)})" for fault in check(node))
        found.extend(method_faults(node, methods))
    return found + class_faults(tree) + name_faults(tree) + place_faults(tree)


def file_faults(name, source):
    lines = source.split("\n")
    words = re.findall(r"[A-Za-z0-9_]+", source)
    checks = (
        ("L1 file's name", not re.fullmatch(r"[a-z][a-z0-9_]*\.py|__init__\.py", name)),
        ("L14 file's name", name[:-3] in NO_FILES or name.startswith("test_") or name[:-3] in dir(builtins)),
        ("L10 file's length", len(lines) > 401),
        ("L10 line's length", any(len(line) > 120 for line in lines)),
        ("L14 sign", any(not (" " <= sign <= "~" or sign == "\n") for sign in source)),
        ("L17 word", any(word in NO_WORDS for word in words)),
        ("L17 part of a word", any(part in source for part in NO_PARTS)),
    )
    return [rule for rule, broken in checks if broken]


def top_faults(tree):
    found = []
    for place, node in enumerate(tree.body):
        told = place == 0 and isinstance(node, ast.Expr) and isinstance(node.value, ast.Constant)
        if not told and not isinstance(node, (ast.ImportFrom, ast.FunctionDef, ast.ClassDef, ast.Assign)):
            found.append(f"L3 line {node.lineno}")
        if isinstance(node, ast.Assign) and not is_plain(node.value):
            found.append(f"L3 no plain value, line {node.lineno}")
    bound = [name for node in tree.body for name in names_bound(node)]
    if len(bound) != len(set(bound)):
        found.append("L15 a name bound twice at the top")
    for node in ast.walk(tree):
        if isinstance(node, (ast.Import, ast.ImportFrom, ast.ClassDef)) and node not in tree.body:
            found.append(f"L2 or L15 not at the top, line {node.lineno}")
    return found


def is_plain(value):
    if isinstance(value, (ast.List, ast.Tuple)):
        return all(is_plain(kid) for kid in value.elts)
    if isinstance(value, ast.Dict):
        return all(is_plain(kid) for kid in value.keys + value.values)
    if isinstance(value, ast.UnaryOp):
        return is_plain(value.operand)
    return isinstance(value, (ast.Constant, ast.Name))


def names_bound(node):
    if isinstance(node, (ast.FunctionDef, ast.ClassDef)):
        return [node.name]
    if isinstance(node, ast.ImportFrom):
        return [alias.asname or alias.name for alias in node.names]
    if isinstance(node, ast.Assign):
        return [kid.id for target in node.targets for kid in ast.walk(target) if isinstance(kid, ast.Name)]
    return []


def kind_fault(node):
    if not isinstance(node, NODES):
        yield f"L6 or L7 {type(node).__name__}"


def import_fault(node):
    if isinstance(node, ast.Import):
        yield "L16 import"
    if isinstance(node, ast.ImportFrom):
        own = node.level == 0 and (node.module or "").startswith(PACKAGE + ".")
        if not own or any(alias.name == "*" for alias in node.names):
            yield "L2 import"


def def_fault(node):
    if isinstance(node, ast.FunctionDef):
        if node.end_lineno - node.lineno + 1 > 40:
            yield "L10 def's length"
        if node.decorator_list:
            yield "L4 decorator"
    if isinstance(node, (ast.FunctionDef, ast.Lambda)):
        rest = node.args
        if rest.vararg or rest.kwarg or rest.kwonlyargs or rest.posonlyargs:
            yield "L4 params"
        if any(not isinstance(value, (ast.Constant, ast.UnaryOp)) for value in rest.defaults):
            yield "L4 default"


def class_fault(node):
    if isinstance(node, ast.ClassDef):
        if node.decorator_list or node.keywords or len(node.bases) > 1:
            yield "L5 class"
        for part in node.body:
            words = isinstance(part, ast.Expr) and isinstance(part.value, ast.Constant)
            if not words and not isinstance(part, (ast.FunctionDef, ast.Pass)):
                yield "L5 class's body"


def statement_fault(node):
    if isinstance(node, ast.Assign) and len(node.targets) > 1:
        yield "L6 targets"
    if isinstance(node, (ast.For, ast.While)) and node.orelse:
        yield "L6 else behind a loop"
    if isinstance(node, ast.Try) and node.finalbody:
        yield "L6 finally"
    if isinstance(node, ast.Expr) and not isinstance(node.value, (ast.Call, ast.Constant)):
        yield "L6 an expression by itself"
    if isinstance(node, ast.ListComp) and (len(node.generators) > 1 or len(node.generators[0].ifs) > 1):
        yield "L7 comprehension"
    if isinstance(node, ast.FormattedValue) and (not isinstance(node.value, ast.Name) or node.format_spec):
        yield "L7 f-string"


def handler_fault(node):
    if isinstance(node, ast.ExceptHandler):
        caught = node.type.elts if isinstance(node.type, ast.Tuple) else [node.type]
        for kind in caught:
            if not isinstance(kind, ast.Name) or kind.id in ("Exception", "TypeError"):
                yield "L19 except"
    if isinstance(node, ast.Raise) and not isinstance(node.exc, ast.Call):
        yield "L19 raise"


def value_fault(node):
    if isinstance(node, ast.Constant):
        if isinstance(node.value, (float, complex, bytes)) or node.value is ...:
            yield "L7 constant"
        if isinstance(node.value, str) and "%" in node.value:
            yield "L27 percent sign"
    if isinstance(node, ast.BinOp) and isinstance(node.op, ast.Pow):
        written = isinstance(node.right, ast.Constant) and 0 <= node.right.value <= 64
        if not written:
            yield "L27 power"
    if isinstance(node, ast.Compare):
        for op, side in zip(node.ops, node.comparators):
            beside = isinstance(side, ast.Constant) and (side.value is None or isinstance(side.value, bool))
            if isinstance(op, (ast.Is, ast.IsNot)) and not beside:
                yield "L20 is"


CHECKS = (kind_fault, import_fault, def_fault, class_fault, statement_fault, handler_fault, value_fault)


def method_faults(node, methods):
    found = []
    if isinstance(node, ast.Attribute):
        if node.attr.startswith("_") and node.attr != "__init__":
            found.append(f"L8 or L12 {node.attr}")
        if node.attr in ("format", "format_map", "mro") + tuple(SILENT[:8]):
            found.append(f"L17 {node.attr}")
        if isinstance(node.ctx, ast.Store) and node.attr in NO_VALUES:
            found.append(f"L26 {node.attr}")
    if isinstance(node, ast.Call) and isinstance(node.func, ast.Attribute):
        if node.func.attr not in METHODS and node.func.attr not in methods and node.func.attr != "__init__":
            found.append(f"L25 {node.func.attr}")
    return found


def class_faults(tree):
    found = []
    for node in ast.walk(tree):
        if isinstance(node, ast.ClassDef):
            names = [part.name for part in node.body if isinstance(part, ast.FunctionDef)]
            if len(names) != len(set(names)):
                found.append(f"L18 a method twice in {node.name}")
            found.extend(f"L5 {name}" for name in names if name.startswith("_") and name not in UNDERSCORED)
    return found


def name_faults(tree):
    """Of names by themselves; methods and values of objects are looked at elsewhere."""
    methods = [part for node in ast.walk(tree) if isinstance(node, ast.ClassDef) for part in node.body]
    tops = [node for node in tree.body if isinstance(node, (ast.ClassDef, ast.ImportFrom))]
    shut = [name for node in tops for name in names_bound(node)]
    bound, used = [], []
    for node in ast.walk(tree):
        if isinstance(node, ast.Name):
            (used if isinstance(node.ctx, ast.Load) else bound).append(node.id)
        elif isinstance(node, ast.arg):
            bound.append(node.arg)
        elif isinstance(node, ast.ExceptHandler) and node.name:
            bound.append(node.name)
    inner = [node.name for node in ast.walk(tree)
             if isinstance(node, (ast.FunctionDef, ast.ClassDef)) and node not in methods]
    found = [f"L15 {name}" for name in bound if name in shut]
    found += [f"L15 {name}" for name in bound + inner if name in dir(builtins)]
    found += [f"L12 {name}" for name in bound + inner if not re.fullmatch(r"[A-Za-z][A-Za-z0-9_]*", name)]
    found += [f"L17 {name}" for name in bound + inner + used if name in SILENT]
    found += [f"L8 {name}" for name in used if name in dir(builtins) and name not in OWN]
    return found


def place_faults(tree):
    """Of what may stand at some places alone: classes, what is walked on the spot, lists and dicts of the top."""
    above = {kid: node for node in ast.walk(tree) for kid in ast.iter_child_nodes(node)}
    classes = [node.name for node in tree.body if isinstance(node, ast.ClassDef)]
    kept = [name for node in tree.body if isinstance(node, ast.Assign) and isinstance(node.value, (ast.List, ast.Dict))
            for name in names_bound(node)]
    found = []
    for node in ast.walk(tree):
        over = above.get(node)
        if isinstance(node, ast.Name) and isinstance(node.ctx, ast.Load):
            if node.id in classes and not class_may_stand(node, over, above):
                found.append(f"L18 {node.id} (line {node.lineno})")
            if node.id in kept and not list_may_stand(node, over):
                found.append(f"L15 {node.id} (line {node.lineno})")
        if isinstance(node, ast.Call) and called(node) in WALKED and not walk_may_stand(node, over):
            found.append(f"L23 {called(node)} (line {node.lineno})")
        # Narrower than L24 on purpose: the package has no need of sets.
        if isinstance(node, ast.Call) and called(node) in ("set", "frozenset"):
            found.append(f"L24 {called(node)} (line {node.lineno})")
    return found


WALKED = ("zip", "enumerate", "reversed", "range", "items", "keys", "values")
WALKERS = ("list", "tuple", "dict", "sorted", "sum", "any", "all", "enumerate", "zip", "reversed", "min", "max", "join")
LOOKERS = ("len", "list", "tuple", "dict", "sorted")


def called(node):
    return node.func.attr if isinstance(node.func, ast.Attribute) else getattr(node.func, "id", "")


def class_may_stand(node, over, above):
    if isinstance(over, ast.Tuple):
        over = above[over]
    if isinstance(over, ast.Call):
        return over.func is node or called(over) == "isinstance"
    return isinstance(over, (ast.ClassDef, ast.ExceptHandler, ast.Attribute))


def list_may_stand(node, over):
    if isinstance(over, (ast.Subscript, ast.For, ast.comprehension, ast.Compare)):
        return not isinstance(getattr(over, "ctx", None), ast.Store)
    if isinstance(over, ast.Call):
        return called(over) in LOOKERS
    return isinstance(over, ast.Attribute) and over.attr == "get"


def walk_may_stand(node, over):
    if isinstance(over, (ast.For, ast.comprehension)):
        return over.iter is node
    return isinstance(over, ast.Call) and called(over) in WALKERS


def methods_of(sources):
    """The names of all methods of the package's own classes."""
    return [part.name for source in sources for node in ast.walk(ast.parse(source)) if isinstance(node, ast.ClassDef)
            for part in node.body if isinstance(part, ast.FunctionDef)]


def values_of(sources):
    """The names of all values that objects of the package are given."""
    return [node.attr for source in sources for node in ast.walk(ast.parse(source))
            if isinstance(node, ast.Attribute) and isinstance(node.ctx, ast.Store)]


def draws_of(source):
    """Which of the package's files a file draws from, by what names."""
    return [(node.module[len(PACKAGE) + 1:], alias.name) for node in ast.parse(source).body
            if isinstance(node, ast.ImportFrom) for alias in node.names]


def defined_in(source):
    return [name for node in ast.parse(source).body if not isinstance(node, ast.ImportFrom)
            for name in names_bound(node)]
