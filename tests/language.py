"""Finds what in a file of the package lies outside the rules of the language document.

It is narrower than the rules where that makes a rule easy to see: no errors, sets,
lambdas, keywords, annotations, escapes, or lists and dicts at a file's top. It may be
widened when the program needs one of these, with the rule that then has to be looked at.
"""

import ast
import builtins
import re

PACKAGE = "sealedorders"
BUILTINS = {name for name in dir(builtins) if not name.startswith("__")}
OWN_NAMES = set("""len range enumerate zip min max sum abs sorted reversed int str bool list tuple dict
    isinstance ord repr any all divmod""".split())
METHODS = set("""append clear copy count endswith extend find get index insert isalnum isalpha isdigit islower
    isspace isupper items join keys ljust lower lstrip partition pop remove replace reverse rfind rjust rpartition
    rsplit rstrip setdefault split splitlines startswith strip update upper values zfill bit_length""".split())
CHANGES = set("append clear extend insert pop remove reverse setdefault update".split())
WALKED = set("range zip enumerate reversed".split())
COPIES = set("list tuple sorted range dict".split())
WALKERS = set("list tuple dict sorted sum any all enumerate zip min max".split())
UNUSED = set("""register mro elements open input version_info with_traceback add_note attrgetter breakpoint builtins
    compile copyright credits delattr dir eval exec exit gc getattr globals hasattr help id importlib license locals
    methodcaller os quit setattr super type vars sys format format_map""".split())
WORDS = re.compile(r"\b(type|typing|typing_extensions|enum|Enum|IntEnum|StrEnum|Flag|IntFlag|Generic|Protocol|ABC"
                   r"|ABCMeta|namedtuple|NamedTuple|TypedDict|TYPE_CHECKING|abstractmethod)\b"
                   r"|dataclass|overload|contextmanager")
FRAMES = re.compile(r"(f|tb|co|gi|cr|ag)_[a-z]+$")
PYTHONS = set().union(*[dir(kind) for kind in (str, int, list, tuple, dict, set, frozenset, bytes)])
PLAIN_NAME = re.compile(r"[A-Za-z][A-Za-z0-9_]*$")
FILE_NAME = re.compile(r"([a-z][a-z0-9_]*|__init__)\.py$")
FILE_WORDS = re.compile(r"(test|tests|testing|test_.*|site|conftest|sitecustomize|usercustomize)$")

STATEMENTS = (ast.FunctionDef, ast.ClassDef, ast.ImportFrom, ast.Assign, ast.AugAssign, ast.If, ast.While, ast.For,
              ast.Return, ast.Break, ast.Continue, ast.Pass, ast.Expr)
EXPRESSIONS = (ast.Constant, ast.Name, ast.List, ast.Tuple, ast.Dict, ast.BinOp, ast.UnaryOp, ast.BoolOp,
               ast.Compare, ast.IfExp, ast.Call, ast.Attribute, ast.Subscript, ast.Slice, ast.ListComp)
TOP = (ast.FunctionDef, ast.ClassDef, ast.ImportFrom, ast.Assign)


def file_faults(name):
    """L1 and L14: what a file in the package may be called."""
    stem = name[:-3]
    named = FILE_NAME.match(name) and not FILE_WORDS.match(stem)
    if not named or stem in BUILTINS or WORDS.fullmatch(stem):
        return [f"L14 file name {name}"]
    return []


def faults(source):
    """What is wrong in one file, each as a text that begins with its rule."""
    tree = ast.parse(source)
    found = sign_faults(source) + top_faults(tree) + class_faults(tree) + class_use_faults(tree) + name_faults(tree)
    for node in ast.walk(tree):
        if isinstance(node, ast.stmt):
            found += statement_faults(node)
        if isinstance(node, ast.expr):
            found += expression_faults(node)
        if isinstance(node, ast.FunctionDef):
            found += function_faults(node)
    return found + walk_faults(tree) + call_faults(tree)


def sign_faults(source):
    found = []
    rows = source.split("\n")
    if len(rows) > 401 or (len(rows) == 401 and rows[-1]):
        found.append("L10 file too long")
    for number, row in enumerate(rows, start=1):
        if len(row) > 120:
            found.append(f"L10 line {number} too long")
        if not all(" " <= sign <= "~" for sign in row):
            found.append(f"L14 sign in line {number}")
        if WORDS.search(row):
            found.append(f"L17 word in line {number}")
        if "\\" in row:
            found.append(f"L27 escape in line {number}")
    return found


def is_plain(node):
    """Whether this is a value that may stand at a file's top: a number, a text, or a tuple of these."""
    if isinstance(node, ast.Tuple):
        return all(is_plain(part) for part in node.elts)
    if isinstance(node, ast.UnaryOp) and isinstance(node.op, ast.USub):
        return isinstance(node.operand, ast.Constant)
    return isinstance(node, ast.Constant)


def top_faults(tree):
    found = []
    bound = []
    imports_over = False
    for node in ast.walk(tree):
        if isinstance(node, ast.ImportFrom) and node not in tree.body:
            found.append(f"L2 line {node.lineno}")
    for place, node in enumerate(tree.body):
        if place == 0 and isinstance(node, ast.Expr) and isinstance(node.value, ast.Constant):
            continue
        if isinstance(node, ast.Import):
            found.append(f"L2 line {node.lineno}")
        elif not isinstance(node, TOP):
            found.append(f"L3 line {node.lineno}")
        if isinstance(node, ast.ImportFrom):
            own = node.level == 0 and (node.module or "").split(".")[0] == PACKAGE
            if imports_over or not own or any(name.name == "*" or name.asname for name in node.names):
                found.append(f"L2 line {node.lineno}")
            bound += [name.name for name in node.names]
            continue
        imports_over = True
        if isinstance(node, (ast.FunctionDef, ast.ClassDef)):
            bound.append(node.name)
        if isinstance(node, ast.Assign):
            bound += [target.id for target in node.targets if isinstance(target, ast.Name)]
            if not is_plain(node.value):
                found.append(f"L3 value in line {node.lineno}")
    if len(bound) != len(set(bound)):
        found.append("L15 a name is bound twice at the top")
    return found


def class_faults(tree):
    found = []
    methods = set()
    held = set()
    for node in ast.walk(tree):
        if isinstance(node, ast.ClassDef):
            names = [part.name for part in node.body if isinstance(part, ast.FunctionDef)]
            methods.update(names)
            if node not in tree.body:
                found.append(f"L15 class in line {node.lineno}")
            if len(names) != len(set(names)):
                found.append(f"L18 a method twice in {node.name}")
            if node.decorator_list or node.keywords or len(node.bases) > 1:
                found.append(f"L5 class {node.name}")
            if not all(isinstance(part, ast.FunctionDef) or is_docstring(part) for part in node.body):
                found.append(f"L5 value in {node.name}")
        if isinstance(node, ast.Attribute) and isinstance(node.ctx, ast.Store):
            held.add(node.attr)
    methods.discard("__init__")
    found += [f"L18 {name} is a method and a value" for name in sorted(methods & held)]
    return found + [f"L26 {name}" for name in sorted((methods | held) & PYTHONS)]


def class_use_faults(tree):
    """L18: a class is called, is a base or stands by isinstance; values are given through a local name."""
    found = []
    tops = {node.name for node in tree.body if isinstance(node, (ast.ClassDef, ast.FunctionDef))}
    tops.update(part.id for node in tree.body if isinstance(node, ast.Assign) for part in node.targets)
    classes = {node.name for node in tree.body if isinstance(node, ast.ClassDef)}
    right = []
    for node in ast.walk(tree):
        if isinstance(node, ast.Call):
            right.append(node.func)
            if isinstance(node.func, ast.Name) and node.func.id == "isinstance":
                right += node.args[1:]
        if isinstance(node, ast.ClassDef):
            right += node.bases
    for node in ast.walk(tree):
        if isinstance(node, ast.Name) and node.id in classes and node not in right:
            found.append(f"L18 {node.id} in line {node.lineno}")
        if isinstance(node, (ast.Attribute, ast.Subscript)) and isinstance(node.ctx, ast.Store):
            if isinstance(node.value, ast.Name) and node.value.id in tops:
                found.append(f"L18 value in line {node.lineno}")
    return found


def is_docstring(node):
    return isinstance(node, ast.Expr) and isinstance(node.value, ast.Constant) and isinstance(node.value.value, str)


def bound_names(tree):
    """Each name that is bound somewhere, with its line."""
    for node in ast.walk(tree):
        if isinstance(node, ast.Name) and isinstance(node.ctx, ast.Store):
            yield node.id, node.lineno
        elif isinstance(node, (ast.FunctionDef, ast.ClassDef)):
            yield node.name, node.lineno
        elif isinstance(node, ast.arg):
            yield node.arg, node.lineno
        elif isinstance(node, ast.Attribute):
            yield node.attr, node.lineno


def name_faults(tree):
    found = []
    classes = {node.name for node in tree.body if isinstance(node, ast.ClassDef)}
    for name, line in bound_names(tree):
        if not PLAIN_NAME.match(name) and name != "__init__":
            found.append(f"L12 {name} in line {line}")
        if name in UNUSED or FRAMES.match(name):
            found.append(f"L17 {name} in line {line}")
    for node in ast.walk(tree):
        local = node.arg if isinstance(node, ast.arg) else None
        if isinstance(node, ast.Name) and isinstance(node.ctx, ast.Store):
            local = node.id
        if local is not None and (local in BUILTINS or local in classes):
            found.append(f"L15 {local} in line {node.lineno}")
        if isinstance(node, ast.Name) and node.id in BUILTINS and node.id not in OWN_NAMES:
            found.append(f"L8 {node.id} in line {node.lineno}")
        if isinstance(node, (ast.FunctionDef, ast.ClassDef)) and node.name in BUILTINS:
            found.append(f"L8 {node.name} in line {node.lineno}")
    return found


def function_faults(node):
    found = []
    shape = node.args
    if shape.vararg or shape.kwarg or shape.kwonlyargs or shape.posonlyargs or node.decorator_list:
        found.append(f"L4 {node.name}")
    if not all(is_plain(value) for value in shape.defaults):
        found.append(f"L4 default of {node.name}")
    if node.returns or any(part.annotation for part in shape.args):
        found.append(f"L21 {node.name}")
    if node.end_lineno - node.lineno + 1 > 40:
        found.append(f"L10 {node.name} too long")
    if node.name == "__init__" and any(isinstance(part, ast.Return) for part in ast.walk(node)):
        found.append(f"L28 return in line {node.lineno}")
    return found


def statement_faults(node):
    found = []
    if not isinstance(node, STATEMENTS):
        found.append(f"L6 line {node.lineno}")
    if isinstance(node, (ast.For, ast.While)) and node.orelse:
        found.append(f"L6 else behind a loop in line {node.lineno}")
    if isinstance(node, ast.Assign) and (len(node.targets) > 1 or isinstance(node.targets[0], (ast.Tuple, ast.List))):
        found.append(f"L6 targets in line {node.lineno}")
    if isinstance(node, ast.Expr) and not isinstance(node.value, ast.Call) and not is_docstring(node):
        found.append(f"L6 value by itself in line {node.lineno}")
    return found


def expression_faults(node):
    found = []
    if not isinstance(node, EXPRESSIONS):
        found.append(f"L7 line {node.lineno}")
    if isinstance(node, ast.Constant):
        if not (node.value is None or isinstance(node.value, (bool, int, str))):
            found.append(f"L7 value in line {node.lineno}")
        if isinstance(node.value, str) and "%" in node.value:
            found.append(f"L27 sign in line {node.lineno}")
    if isinstance(node, ast.BinOp) and isinstance(node.op, (ast.Div, ast.MatMult)):
        found.append(f"L7 sign in line {node.lineno}")
    if isinstance(node, ast.BinOp) and isinstance(node.op, ast.Pow):
        if not isinstance(node.right, ast.Constant) or node.right.value not in range(65):
            found.append(f"L27 exponent in line {node.lineno}")
    if isinstance(node, ast.ListComp) and (len(node.generators) > 1 or len(node.generators[0].ifs) > 1):
        found.append(f"L7 comprehension in line {node.lineno}")
    if isinstance(node, ast.Compare):
        for sign, side in zip(node.ops, node.comparators):
            single = isinstance(side, ast.Constant) and (side.value is None or isinstance(side.value, bool))
            if isinstance(sign, (ast.Is, ast.IsNot)) and not single:
                found.append(f"L20 line {node.lineno}")
    return found


def call_faults(tree):
    """L22 and L25: only Python's listed names and methods and the program's own are called, and on the spot."""
    found = []
    own = {node.name for node in ast.walk(tree) if isinstance(node, ast.FunctionDef)}
    called = [node.func for node in ast.walk(tree) if isinstance(node, ast.Call)]
    for node in ast.walk(tree):
        if isinstance(node, ast.Call) and node.keywords:
            found.append(f"L22 keyword in line {node.lineno}")
        if isinstance(node, ast.Name) and node.id in OWN_NAMES and node not in called:
            found.append(f"L22 {node.id} in line {node.lineno}")
        if isinstance(node, ast.Attribute):
            if node in called and node.attr not in METHODS and node.attr not in own:
                found.append(f"L25 {node.attr} in line {node.lineno}")
            if node not in called and node.attr in METHODS:
                found.append(f"L25 {node.attr} in line {node.lineno}")
    return found


def walk_faults(tree):
    """L23: ranges and their like are walked where they stand, and what is walked is not changed meanwhile."""
    found = []
    on_the_spot = []
    for node in ast.walk(tree):
        if isinstance(node, (ast.For, ast.comprehension)):
            on_the_spot.append(node.iter)
        if isinstance(node, ast.Call) and isinstance(node.func, ast.Name) and node.func.id in WALKERS:
            on_the_spot += node.args[:1]
        if isinstance(node, ast.For) and not is_copy(node.iter):
            found += [f"L23 line {part.lineno}" for part in changes_in(node.body, ast.unparse(node.iter))]
    for node in ast.walk(tree):
        if isinstance(node, ast.Call) and node not in on_the_spot:
            if isinstance(node.func, ast.Name) and node.func.id in WALKED:
                found.append(f"L23 {node.func.id} in line {node.lineno}")
            if isinstance(node.func, ast.Attribute) and node.func.attr in ("items", "keys", "values"):
                found.append(f"L23 {node.func.attr} in line {node.lineno}")
    return found


def is_copy(node):
    return isinstance(node, ast.Call) and isinstance(node.func, ast.Name) and node.func.id in COPIES


def changes_in(body, walked):
    """The places in a loop's body that change what it walks, or something that is named in that."""
    for statement in body:
        for node in ast.walk(statement):
            stores = isinstance(node, ast.Subscript) and isinstance(node.ctx, ast.Store)
            changes = isinstance(node, ast.Attribute) and node.attr in CHANGES
            if (stores or changes) and re.search(rf"(?<![\w.]){re.escape(ast.unparse(node.value))}(?![\w.])", walked):
                yield node
