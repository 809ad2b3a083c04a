"""A looker for those rules of LANGUAGE.md that can be seen in a file's text and tree."""

import ast
import builtins
import re

OWN_CALLS = set(
    "len range enumerate zip min max sum abs sorted reversed int str bool list tuple dict set frozenset "
    "isinstance ord repr any all divmod".split()
)
OWN_ERRORS = set(
    "Exception ValueError TypeError KeyError IndexError LookupError ZeroDivisionError ArithmeticError "
    "OverflowError RuntimeError NotImplementedError AttributeError StopIteration".split()
)
OWN_METHODS = set(
    "append clear copy count endswith extend find get index insert isalnum isalpha isdigit islower isspace "
    "isupper items join keys ljust lower lstrip partition pop remove replace reverse rfind rjust rpartition "
    "rsplit rstrip setdefault split splitlines startswith strip update upper values zfill bit_length".split()
)
STATEMENTS = (
    ast.Assign, ast.AugAssign, ast.If, ast.While, ast.For, ast.Return, ast.Break, ast.Continue, ast.Pass,
    ast.Raise, ast.Try, ast.Expr, ast.FunctionDef, ast.ClassDef, ast.ImportFrom,
)
EXPRESSIONS = (
    ast.Constant, ast.Name, ast.List, ast.Tuple, ast.Dict, ast.BinOp, ast.UnaryOp, ast.BoolOp, ast.Compare,
    ast.IfExp, ast.Call, ast.Attribute, ast.Subscript, ast.Slice, ast.ListComp, ast.JoinedStr,
    ast.FormattedValue, ast.Lambda,
)
DUNDERS = ("__init__", "__eq__", "__repr__", "__str__", "__len__")
WALKED = ("zip", "enumerate", "reversed", "range")
WALKERS = ("list", "tuple", "dict", "sorted", "sum", "any", "all", "enumerate", "zip", "min", "max")
KEYWORDS = {
    "sorted": ("key", "reverse"), "min": ("key", "default"), "max": ("key", "default"),
    "sum": ("start",), "enumerate": ("start",), "zip": ("strict",),
}
BAD_NAMES = set(
    "register mro elements open input version_info with_traceback add_note format format_map attrgetter "
    "breakpoint builtins compile copyright credits delattr dir eval exec exit gc getattr globals hasattr help id "
    "importlib license locals methodcaller os quit setattr super type vars sys chr".split()
)
BAD_WORDS = re.compile(
    r"\b(type|typing|typing_extensions|enum|Enum|IntEnum|StrEnum|Flag|IntFlag|Generic|Protocol|ABC|ABCMeta"
    r"|namedtuple|NamedTuple|TypedDict|TYPE_CHECKING|abstractmethod)\b|dataclass|overload|contextmanager"
)
BAD_FILES = ("test", "tests", "testing", "site", "conftest", "sitecustomize", "usercustomize")
# The names of Python's own values that an object's value may bear all the same.
FREE_VALUES = set("count index title find get join lower upper split strip copy add".split())


def text_faults(name, text):
    """What is amiss in the signs, the sizes and the words of a file."""
    faults = []
    if not re.fullmatch(r"[a-z0-9_]+\.py", name):
        faults.append("L14 file name")
    stem = name[:-3]
    python = stem != "__init__" and hasattr(builtins, stem)
    if stem in BAD_FILES or stem.startswith("test_") or python:
        faults.append("L14 file name")
    if re.search(r"[^ -~\n]", text):
        faults.append("L14 sign")
    lines = text.split("\n")
    if len(lines) > 401:
        faults.append("L10 file length")
    for at, line in enumerate(lines, start=1):
        if len(line) > 120:
            faults.append(f"L10 line {at}")
        if BAD_WORDS.search(line):
            faults.append(f"L17 word, line {at}")
    return faults


def parents(tree):
    above = {}
    for node in ast.walk(tree):
        for child in ast.iter_child_nodes(node):
            above[child] = node
    return above


def top_faults(tree, package):
    faults = []
    bound = []
    for place, node in enumerate(tree.body):
        if isinstance(node, ast.Expr):
            if place != 0 or not isinstance(node.value, ast.Constant):
                faults.append(f"L3 line {node.lineno}")
        elif isinstance(node, ast.ImportFrom):
            if node.level or not (node.module or "").startswith(package + "."):
                faults.append(f"L2 line {node.lineno}")
            for alias in node.names:
                if alias.name == "*" or alias.asname:
                    faults.append(f"L16 line {node.lineno}")
                bound.append(alias.name)
        elif isinstance(node, ast.Assign):
            if not all(isinstance(target, ast.Name) for target in node.targets) or not plain_value(node.value):
                faults.append(f"L3 line {node.lineno}")
            bound += [target.id for target in node.targets if isinstance(target, ast.Name)]
        elif isinstance(node, (ast.FunctionDef, ast.ClassDef)):
            bound.append(node.name)
        else:
            faults.append(f"L3 line {node.lineno}")
    if len(bound) != len(set(bound)):
        faults.append("L15 a name is bound twice")
    return faults


def plain_value(node):
    if isinstance(node, (ast.List, ast.Tuple)):
        return all(plain_value(part) for part in node.elts)
    if isinstance(node, ast.Dict):
        return all(plain_value(part) for part in node.keys + node.values)
    if isinstance(node, ast.UnaryOp):
        return plain_value(node.operand)
    return isinstance(node, (ast.Constant, ast.Name))


def statement_faults(node):
    at = f"line {node.lineno}"
    if not isinstance(node, STATEMENTS):
        return [f"L6 {at}"]
    faults = []
    if isinstance(node, ast.Assign) and (len(node.targets) != 1 or isinstance(node.targets[0], (ast.Tuple, ast.List))):
        faults.append(f"L6 targets, {at}")
    if isinstance(node, (ast.For, ast.While)) and node.orelse:
        faults.append(f"L6 else, {at}")
    if isinstance(node, ast.Try) and (node.finalbody or any(handler.type is None for handler in node.handlers)):
        faults.append(f"L6 try, {at}")
    if isinstance(node, ast.FunctionDef):
        faults += function_faults(node, at)
    if isinstance(node, ast.ClassDef):
        faults += class_faults(node, at)
    return faults


def function_faults(node, at):
    faults = []
    args = node.args
    if args.vararg or args.kwarg or args.kwonlyargs or args.posonlyargs or node.decorator_list:
        faults.append(f"L4 {at}")
    if not all(plain_value(value) for value in args.defaults):
        faults.append(f"L4 default, {at}")
    if node.returns or any(arg.annotation for arg in args.args):
        faults.append(f"L21 {at}")
    if node.end_lineno - node.lineno + 1 > 40:
        faults.append(f"L10 function, {at}")
    return faults


def class_faults(node, at):
    faults = []
    if node.decorator_list or node.keywords or len(node.bases) > 1:
        faults.append(f"L5 {at}")
    names = []
    for part in node.body:
        if isinstance(part, ast.FunctionDef):
            names.append(part.name)
            if part.name.startswith("_") and part.name not in DUNDERS:
                faults.append(f"L5 method, {at}")
        elif not (isinstance(part, ast.Expr) and isinstance(part.value, ast.Constant) or isinstance(part, ast.Pass)):
            faults.append(f"L5 body, {at}")
    if len(names) != len(set(names)):
        faults.append(f"L18 {at}")
    return faults


def expression_faults(node, above):
    at = f"line {node.lineno}"
    if isinstance(node, ast.Call) and isinstance(node.func, ast.Name) and node.func.id == "set":
        return set_faults(node, above, at)
    if not isinstance(node, EXPRESSIONS):
        return [f"L7 {at}"]
    if isinstance(node, ast.Constant):
        return constant_faults(node, at)
    if isinstance(node, ast.ListComp):
        wrong = len(node.generators) != 1 or len(node.generators[0].ifs) > 1
        return [f"L7 comprehension, {at}"] if wrong else []
    if isinstance(node, ast.FormattedValue):
        wrong = not isinstance(node.value, ast.Name) or node.format_spec or node.conversion not in (-1, ord("r"))
        return [f"L7 f-string, {at}"] if wrong else []
    if isinstance(node, ast.BinOp):
        power = isinstance(node.op, ast.Pow) and not isinstance(node.right, ast.Constant)
        return [f"L7 {at}"] if isinstance(node.op, (ast.Div, ast.MatMult)) or power else []
    if isinstance(node, ast.Compare):
        return compare_faults(node, at)
    if isinstance(node, ast.Call):
        return call_faults(node, above, at)
    return []


def set_faults(node, above, at):
    over = above[node]
    fits = isinstance(over, ast.Compare) or isinstance(over, ast.Call) and over.func.id in ("sorted", "len")
    return [] if fits else [f"L24 {at}"]


def constant_faults(node, at):
    value = node.value
    if value is None or isinstance(value, (bool, int)):
        return []
    if not isinstance(value, str):
        return [f"L7 value, {at}"]
    return [f"L27 {at}"] if "%" in value else []


def compare_faults(node, at):
    for op, right in zip(node.ops, node.comparators):
        if isinstance(op, (ast.Is, ast.IsNot)) and not (isinstance(right, ast.Constant) and (
                right.value is None or isinstance(right.value, bool))):
            return [f"L20 {at}"]
    return []


def call_faults(node, above, at):
    faults = []
    func = node.func
    name = func.id if isinstance(func, ast.Name) else None
    if any(isinstance(arg, ast.Starred) for arg in node.args):
        faults.append(f"L7 star, {at}")
    if name in OWN_CALLS or isinstance(func, ast.Attribute):
        allowed = KEYWORDS.get(name, ())
        faults += [f"L22 keyword, {at}" for word in node.keywords if word.arg not in allowed]
    walked = name in WALKED or isinstance(func, ast.Attribute) and func.attr in ("items", "keys", "values")
    if walked and not on_the_spot(node, above[node]):
        faults.append(f"L23 {at}")
    return faults


def on_the_spot(node, over):
    if isinstance(over, (ast.For, ast.comprehension)):
        return over.iter is node
    if not isinstance(over, ast.Call) or not over.args or over.args[0] is not node:
        return False
    if isinstance(over.func, ast.Attribute):
        return over.func.attr == "join" and isinstance(over.func.value, ast.Constant)
    return over.func.id in WALKERS


def name_faults(tree):
    """What is amiss in the names: strange ones, and ones that hide others."""
    faults = []
    tops = set()
    for node in tree.body:
        if isinstance(node, ast.ImportFrom):
            tops |= {alias.name for alias in node.names}
        if isinstance(node, ast.ClassDef):
            tops.add(node.name)
    own = tops | {node.name for node in tree.body if isinstance(node, ast.FunctionDef)}
    own |= {node.targets[0].id for node in tree.body if isinstance(node, ast.Assign)}
    inner = set()
    for node in ast.walk(tree):
        if isinstance(node, ast.arg):
            inner.add(node.arg)
        if isinstance(node, ast.Name) and isinstance(node.ctx, ast.Store) and node.id not in own - tops:
            inner.add(node.id)
        if isinstance(node, ast.ExceptHandler) and node.name:
            inner.add(node.name)
    for name in sorted(inner):
        if name in tops or hasattr(builtins, name):
            faults.append(f"L15 {name}")
    for node in ast.walk(tree):
        if isinstance(node, ast.Name):
            known = node.id in own | inner | OWN_CALLS | OWN_ERRORS
            if not known or node.id.startswith("_") or node.id in BAD_NAMES:
                faults.append(f"L8 {node.id}, line {node.lineno}")
        if isinstance(node, ast.Attribute) and (node.attr in BAD_NAMES or node.attr.startswith("_")):
            if node.attr != "__init__":
                faults.append(f"L17 {node.attr}, line {node.lineno}")
    return faults


def methods_and_values(tree):
    methods = set()
    values = set()
    for cls in [node for node in tree.body if isinstance(node, ast.ClassDef)]:
        methods |= {node.name for node in cls.body if isinstance(node, ast.FunctionDef)} - set(DUNDERS)
        for node in ast.walk(cls):
            if isinstance(node, ast.Attribute) and isinstance(node.ctx, ast.Store):
                values.add(node.attr)
    return methods, values


def attribute_faults(trees):
    """What is amiss in the package's methods and values as a whole."""
    methods = set()
    values = set()
    for tree in trees.values():
        some = methods_and_values(tree)
        methods |= some[0]
        values |= some[1]
    faults = [f"L18 {name}" for name in sorted(methods & values)]
    python = {name for kind in (str, int, list, tuple, dict, set, bytes) for name in vars(kind)}
    faults += [f"L26 value {name}" for name in sorted(values & python - FREE_VALUES)]
    faults += [f"L26 method {name}" for name in sorted(methods & python - OWN_METHODS - {"add", "discard"})]
    for tree in trees.values():
        for node in ast.walk(tree):
            if isinstance(node, ast.Attribute) and node.attr not in methods | values | OWN_METHODS | {"__init__"}:
                faults.append(f"L25 {node.attr}, line {node.lineno}")
    return faults


def import_faults(trees, package):
    """Names drawn from another file than the one that defines them, and rings of imports."""
    faults = []
    draws = {}
    for name, tree in trees.items():
        draws[name] = set()
        for node in tree.body:
            if isinstance(node, ast.ImportFrom):
                source = (node.module or "")[len(package) + 1:]
                if source not in trees:
                    faults.append(f"L16 {name}: {source}")
                    continue
                draws[name].add(source)
                made = [part.name for part in trees[source].body if isinstance(part, (ast.FunctionDef, ast.ClassDef))]
                made += [part.targets[0].id for part in trees[source].body if isinstance(part, ast.Assign)]
                faults += [f"L16 {name}: {alias.name}" for alias in node.names if alias.name not in made]
    for name in draws:
        reached = set()
        ahead = list(draws[name])
        while ahead:
            other = ahead.pop()
            if other not in reached:
                reached.add(other)
                ahead += draws[other]
        if name in reached:
            faults.append(f"L16 ring at {name}")
    return faults


def file_faults(name, text, package):
    """All that is amiss in one file of the package, as far as it can be seen there."""
    tree = ast.parse(text)
    above = parents(tree)
    faults = text_faults(name, text) + top_faults(tree, package) + name_faults(tree)
    for node in ast.walk(tree):
        if isinstance(node, ast.stmt):
            faults += statement_faults(node)
        elif isinstance(node, ast.expr):
            faults += expression_faults(node, above)
    return faults


def package_faults(texts, package):
    """All that is amiss in a package, told by a dict from file names to texts."""
    faults = []
    for name in sorted(texts):
        faults += [f"{name}: {fault}" for fault in file_faults(name, texts[name], package)]
    trees = {name[:-3]: ast.parse(text) for name, text in texts.items()}
    return faults + attribute_faults(trees) + import_faults(trees, package)
