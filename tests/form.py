"""A reader of LANGUAGE.md's rules: faults(name, source, packed) tells where a file of the package breaks them.

It holds those rules that can be seen in a file's tree, at places more narrowly than they are written.
"""

import ast
import builtins
import re

PLAIN_NODES = (
    ast.Module, ast.ImportFrom, ast.alias, ast.FunctionDef, ast.arguments, ast.arg, ast.Lambda, ast.ClassDef,
    ast.Assign, ast.AugAssign, ast.If, ast.While, ast.For, ast.Return, ast.Break, ast.Continue, ast.Pass, ast.Raise,
    ast.Try, ast.ExceptHandler, ast.Expr, ast.Constant, ast.Name, ast.List, ast.Tuple, ast.Dict, ast.Set, ast.BinOp,
    ast.UnaryOp, ast.BoolOp, ast.Compare, ast.IfExp, ast.Call, ast.keyword, ast.Attribute, ast.Subscript, ast.Slice,
    ast.ListComp, ast.comprehension, ast.JoinedStr, ast.FormattedValue, ast.expr_context, ast.operator, ast.unaryop,
    ast.boolop, ast.cmpop,
)
FREE_BUILTINS = set(
    "len range enumerate zip min max sum abs sorted reversed int str bool list tuple dict set frozenset isinstance ord "
    "repr any all divmod Exception ValueError TypeError KeyError IndexError LookupError ZeroDivisionError "
    "ArithmeticError OverflowError RuntimeError NotImplementedError AttributeError StopIteration".split()
)
WALKED = set("zip enumerate reversed range".split())
OWN_DUNDERS = set("__init__ __eq__ __repr__ __str__ __len__".split())
FREE_METHODS = set(
    "append clear copy count endswith extend find get index insert isalnum isalpha isdigit islower isspace isupper "
    "items join keys ljust lower lstrip partition pop remove replace reverse rfind rjust rpartition rsplit rstrip "
    "setdefault split splitlines startswith strip update upper values zfill bit_length".split()
)
BAD_NAMES = set(
    "register mro elements open input version_info with_traceback add_note attrgetter breakpoint builtins compile "
    "copyright credits delattr dir eval exec exit gc getattr globals hasattr help id importlib license locals "
    "methodcaller os quit setattr super type vars sys format format_map".split()
)
BAD_WORDS = re.compile(
    r"\b(type|typing|typing_extensions|enum|Enum|IntEnum|StrEnum|Flag|IntFlag|Generic|Protocol|ABC|ABCMeta|namedtuple"
    r"|NamedTuple|TypedDict|TYPE_CHECKING|abstractmethod)\b|dataclass|overload|contextmanager"
)
BAD_HANDLERS = set("Exception TypeError".split())
OWN_VALUES = set("count index title find get join lower upper split strip copy add".split())
PYTHONS_NAMES = set(sum([dir(kind) for kind in (str, int, list, tuple, dict, set, bytes)], [])) | {"args"}


def name_faults(name):
    if not re.fullmatch(r"[A-Za-z][A-Za-z0-9_]*", name) and name not in OWN_DUNDERS:
        return ["L12"]
    return ["L17"] if name in BAD_NAMES else []


def sign_faults(source):
    rows = source.split("\n")
    found = [("L10", 0)] if len(rows) > 401 else []
    for number, row in enumerate(rows, start=1):
        if len(row) > 120:
            found.append(("L10", number))
        if re.search(r"[^ -~]", row):
            found.append(("L14", number))
        if BAD_WORDS.search(row):
            found.append(("L17", number))
    return found


def is_plain_value(node, above):
    if isinstance(node, (ast.List, ast.Tuple)):
        return all(is_plain_value(part, above) for part in node.elts)
    if isinstance(node, ast.Dict):
        return all(is_plain_value(part, above) for part in node.keys + node.values)
    if isinstance(node, ast.UnaryOp):
        return isinstance(node.op, ast.USub) and isinstance(node.operand, ast.Constant)
    return isinstance(node, ast.Constant) or isinstance(node, ast.Name) and node.id in above


def top_names(tree):
    found = []
    for node in tree.body:
        if isinstance(node, (ast.FunctionDef, ast.ClassDef)):
            found.append(node.name)
        if isinstance(node, ast.Assign):
            found = found + [target.id for target in node.targets if isinstance(target, ast.Name)]
    return found


def imported_names(tree):
    rows = [node for node in tree.body if isinstance(node, ast.ImportFrom)]
    return [alias.asname or alias.name for row in rows for alias in row.names]


def top_faults(tree):
    found = []
    functions = []
    names = top_names(tree) + imported_names(tree)
    if len(names) != len(set(names)):
        found.append(("L15", 0))
    for place, node in enumerate(tree.body):
        if isinstance(node, ast.FunctionDef):
            functions.append(node.name)
        elif isinstance(node, ast.Assign):
            if not isinstance(node.targets[0], ast.Name) or not is_plain_value(node.value, functions):
                found.append(("L3", node.lineno))
        elif isinstance(node, ast.Expr) and (place > 0 or ast.get_docstring(tree) is None):
            found.append(("L3", node.lineno))
        elif not isinstance(node, (ast.Expr, ast.ImportFrom, ast.ClassDef)):
            found.append(("L3", node.lineno))
    return found


def import_faults(tree, packed):
    found = []
    for node in ast.walk(tree):
        if isinstance(node, ast.ImportFrom):
            if node not in tree.body or node.level != 0 or node.module not in packed:
                found.append(("L2", node.lineno))
            else:
                there = top_names(ast.parse(packed[node.module]))
                found = found + [("L16", node.lineno) for alias in node.names if alias.name not in there]
    return found


def drawn_from(module, packed):
    tree = ast.parse(packed[module])
    return [node.module for node in tree.body if isinstance(node, ast.ImportFrom) and node.module in packed]


def ring_faults(module, packed):
    reached = []
    waiting = drawn_from(module, packed)
    while waiting:
        other = waiting.pop()
        if other not in reached:
            reached.append(other)
            waiting = waiting + drawn_from(other, packed)
    return [("L16", 0)] if module in reached else []


def function_faults(node):
    taken = node.args
    rules = []
    if node.decorator_list or taken.vararg or taken.kwarg or taken.kwonlyargs or taken.posonlyargs:
        rules.append("L4")
    if node.end_lineno - node.lineno >= 40:
        rules.append("L10")
    if node.returns or any(arg.annotation for arg in taken.args):
        rules.append("L21")
    return rules + name_faults(node.name)


def class_faults(node):
    plain = all(isinstance(part, (ast.FunctionDef, ast.Pass)) for part in node.body)
    names = [part.name for part in node.body if isinstance(part, ast.FunctionDef)]
    rules = [] if plain and len(node.bases) < 2 and not node.keywords and not node.decorator_list else ["L5"]
    return rules + (["L18"] if len(names) != len(set(names)) else []) + name_faults(node.name)


def constant_faults(node):
    value = node.value
    if value is not None and not isinstance(value, (bool, int, str)):
        return ["L7"]
    return ["L27"] if isinstance(value, str) and "%" in value else []


def binary_faults(node):
    if isinstance(node.op, (ast.Div, ast.MatMult)):
        return ["L7"]
    if isinstance(node.op, ast.Pow) and not (isinstance(node.right, ast.Constant) and 0 <= node.right.value <= 64):
        return ["L27"]
    return []


def name_node_faults(node):
    own = hasattr(builtins, node.id)
    if own and not isinstance(node.ctx, ast.Load):
        return ["L15"]
    if own and node.id not in FREE_BUILTINS:
        return ["L8"]
    return name_faults(node.id)


def compare_faults(node):
    sides = [node.left] + node.comparators
    for place, op in enumerate(node.ops):
        pair = sides[place:place + 2]
        beside = [one for one in pair if isinstance(one, ast.Constant) and one.value in (None, True, False)]
        if isinstance(op, (ast.Is, ast.IsNot)) and not beside:
            return ["L20"]
    return []


def handler_faults(node):
    caught = node.type.elts if isinstance(node.type, ast.Tuple) else [node.type]
    bad = [one for one in caught if not isinstance(one, ast.Name) or one.id in BAD_HANDLERS]
    return ["L19"] if bad else []


def formatted_faults(node):
    plain = isinstance(node.value, ast.Name) and node.conversion in (-1, ord("r")) and node.format_spec is None
    return [] if plain else ["L7"]


def arg_faults(node):
    return ["L15"] if hasattr(builtins, node.arg) else name_faults(node.arg)


def comprehension_faults(node):
    return ["L7"] if len(node.generators) > 1 or len(node.generators[0].ifs) > 1 else []


CHECKS = [
    (ast.FunctionDef, function_faults),
    (ast.ClassDef, class_faults),
    (ast.Constant, constant_faults),
    (ast.BinOp, binary_faults),
    (ast.AugAssign, lambda node: ["L7"] if isinstance(node.op, (ast.Div, ast.Pow)) else []),
    (ast.Name, name_node_faults),
    (ast.arg, arg_faults),
    (ast.Compare, compare_faults),
    (ast.ExceptHandler, handler_faults),
    (ast.FormattedValue, formatted_faults),
    (ast.ListComp, comprehension_faults),
    (ast.Attribute, lambda node: name_faults(node.attr)),
    (ast.Assign, lambda node: ["L6"] if len(node.targets) > 1 else []),
    ((ast.For, ast.While), lambda node: ["L6"] if node.orelse else []),
    (ast.Try, lambda node: ["L6"] if node.finalbody else []),
]


def node_faults(tree):
    found = []
    for node in ast.walk(tree):
        rules = [] if isinstance(node, PLAIN_NODES) else ["L6"]
        for kind, check in CHECKS:
            if isinstance(node, kind):
                rules = rules + check(node)
        found = found + [(rule, getattr(node, "lineno", 0)) for rule in rules]
    return found


def expression_faults(tree):
    lone = [node for node in ast.walk(tree) if isinstance(node, ast.Expr) and node not in tree.body]
    return [("L6", node.lineno) for node in lone if not isinstance(node.value, ast.Call)]


def local_faults(tree):
    taken = imported_names(tree) + [node.name for node in tree.body if isinstance(node, ast.ClassDef)]
    found = []
    for node in ast.walk(tree):
        stored = isinstance(node, ast.Name) and isinstance(node.ctx, ast.Store) and node.id in taken
        if stored or isinstance(node, ast.arg) and node.arg in taken:
            found.append(("L15", node.lineno))
    return found


def walked_faults(tree):
    spots = []
    for node in ast.walk(tree):
        if isinstance(node, (ast.For, ast.comprehension)):
            spots.append(node.iter)
        if isinstance(node, ast.Call):
            spots = spots + node.args
    calls = [node for node in ast.walk(tree) if isinstance(node, ast.Call) and isinstance(node.func, ast.Name)]
    return [("L23", node.lineno) for node in calls if node.func.id in WALKED and node not in spots]


def own_methods(packed):
    own = []
    for source in packed.values():
        for node in ast.walk(ast.parse(source)):
            if isinstance(node, ast.ClassDef):
                own = own + [part.name for part in node.body if isinstance(part, ast.FunctionDef)]
    return own


def value_faults(tree, packed):
    methods = own_methods(packed)
    found = []
    for node in ast.walk(tree):
        if isinstance(node, ast.Attribute) and isinstance(node.ctx, ast.Store):
            if node.attr in methods:
                found.append(("L18", node.lineno))
            if node.attr in PYTHONS_NAMES and node.attr not in OWN_VALUES:
                found.append(("L26", node.lineno))
    return found


def set_faults(tree):
    fine = []
    for node in ast.walk(tree):
        if isinstance(node, ast.Call) and isinstance(node.func, ast.Name) and node.func.id in ("len", "sorted"):
            fine = fine + node.args
        if isinstance(node, ast.Compare):
            fine = fine + [node.left] + node.comparators
        if isinstance(node, ast.BinOp):
            fine = fine + [node.left, node.right]
    calls = [node for node in ast.walk(tree) if isinstance(node, ast.Call) and isinstance(node.func, ast.Name)]
    made = [node for node in calls if node.func.id in ("set", "frozenset")]
    made = made + [node for node in ast.walk(tree) if isinstance(node, ast.Set)]
    return [("L24", node.lineno) for node in made if node not in fine]


def top_change_faults(tree):
    kept = [node for node in tree.body if isinstance(node, ast.Assign)]
    names = [node.targets[0].id for node in kept if isinstance(node.value, (ast.List, ast.Dict))]
    used = []
    for node in ast.walk(tree):
        if isinstance(node, (ast.Subscript, ast.Attribute)) and isinstance(node.value, ast.Name):
            if node.value.id in names and isinstance(node.ctx, ast.Store):
                used.append(node)
        if isinstance(node, ast.Return) and isinstance(node.value, ast.Name) and node.value.id in names:
            used.append(node)
    return [("L15", node.lineno) for node in used]


def method_faults(tree, packed):
    own = own_methods(packed)
    called = [node.func for node in ast.walk(tree) if isinstance(node, ast.Call)]
    methods = [func for func in called if isinstance(func, ast.Attribute)]
    return [("L25", func.lineno) for func in methods if func.attr not in FREE_METHODS and func.attr not in own]


def faults(module, packed):
    source = packed[module]
    tree = ast.parse(source)
    found = sign_faults(source) + top_faults(tree) + import_faults(tree, packed) + ring_faults(module, packed)
    found = found + node_faults(tree) + expression_faults(tree) + local_faults(tree) + walked_faults(tree)
    found = found + value_faults(tree, packed) + set_faults(tree) + top_change_faults(tree)
    return sorted(set(found + method_faults(tree, packed)))
