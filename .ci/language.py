"""Looks through the package for code outside ../shared/LANGUAGE.md, as far as a walk over the code can see it.

Use: python3 .ci/language.py PACKAGE_FOLDER. Each finding is a line with the rule's number; exit 1 if there is one.
"""

import ast
import builtins
import pathlib
import re
import sys

STATEMENTS = (
    ast.Assign, ast.AugAssign, ast.AnnAssign, ast.If, ast.While, ast.For, ast.Return, ast.Break, ast.Continue,
    ast.Pass, ast.Raise, ast.Try, ast.Expr, ast.FunctionDef, ast.ClassDef, ast.ImportFrom,
)
EXPRESSIONS = (
    ast.Constant, ast.List, ast.Tuple, ast.Dict, ast.Set, ast.BinOp, ast.UnaryOp, ast.Compare, ast.BoolOp, ast.IfExp,
    ast.Call, ast.Attribute, ast.Subscript, ast.Slice, ast.ListComp, ast.JoinedStr, ast.FormattedValue, ast.Name,
    ast.Lambda,
)
PYTHONS_OWN = set("""
    len range enumerate zip min max sum abs sorted reversed int str bool list tuple dict set frozenset isinstance ord
    repr any all divmod Exception ValueError TypeError KeyError IndexError LookupError ZeroDivisionError
    ArithmeticError OverflowError RuntimeError NotImplementedError AttributeError StopIteration
""".split())
METHODS = set("""
    append clear copy count endswith extend find get index insert isalnum isalpha isdigit islower isspace isupper
    items join keys ljust lower lstrip partition pop remove replace reverse rfind rjust rpartition rsplit rstrip
    setdefault split splitlines startswith strip update upper values zfill bit_length
""".split())
FOREIGN_METHODS = {name for kind in (str, int, list, dict, set, bytes) for name in vars(kind)} - METHODS
BANNED_WORDS = re.compile(
    r"\b(type|typing|typing_extensions|enum|Enum|IntEnum|StrEnum|Flag|IntFlag|Generic|Protocol|ABC|ABCMeta|namedtuple"
    r"|NamedTuple|TypedDict|TYPE_CHECKING|abstractmethod)\b|dataclass|overload|contextmanager"
)
BANNED_NAMES = set("register mro elements open input version_info with_traceback add_note format format_map".split())
WALKED_AT_ONCE = ("zip", "enumerate", "reversed", "range")
SPECIAL_METHODS = ("__init__", "__eq__", "__repr__", "__str__", "__len__")
PLAIN_NAME = re.compile(r"[A-Za-z][A-Za-z0-9_]*\Z")


def find_in_text(text):
    rows = text.split("\n")
    if len(rows) - 1 > 400:
        yield 1, "L10", "more than 400 lines"
    for number, row in enumerate(rows, start=1):
        if len(row) > 120:
            yield number, "L10", "more than 120 characters"
        if re.search(r"[^ -~]", row):
            yield number, "L14", "a sign that is not from the blank to ~"
        if BANNED_WORDS.search(row):
            yield number, "L17", "a word that stands nowhere"


def bound_names(node):
    if isinstance(node, ast.Name) and isinstance(node.ctx, ast.Store):
        return [node.id]
    if isinstance(node, ast.arg):
        return [node.arg]
    if isinstance(node, (ast.FunctionDef, ast.ClassDef)):
        return [node.name]
    if isinstance(node, ast.ImportFrom):
        return [alias.asname or alias.name for alias in node.names]
    if isinstance(node, ast.ExceptHandler) and node.name:
        return [node.name]
    return []


def find_in_names(node, methods):
    for name in bound_names(node):
        if node in methods:
            if name.startswith("__") and name not in SPECIAL_METHODS:
                yield "L5", f"method {name}"
        elif not PLAIN_NAME.match(name):
            yield "L12", f"name {name}"
        elif hasattr(builtins, name):
            yield "L15", f"{name} is a name of Python's own"
        if name in BANNED_NAMES:
            yield "L17", f"name {name}"
    if isinstance(node, ast.Name) and hasattr(builtins, node.id) and node.id not in PYTHONS_OWN:
        yield "L8", f"name {node.id}"
    if isinstance(node, ast.Attribute) and (node.attr in BANNED_NAMES or node.attr in FOREIGN_METHODS):
        yield "L25", f"attribute {node.attr}"


def find_in_function(node):
    if node.end_lineno - node.lineno + 1 > 40:
        yield "L10", "more than 40 lines"
    if node.decorator_list:
        yield "L4", "a decorator"
    if node.args.vararg or node.args.kwarg or node.args.kwonlyargs or node.args.posonlyargs:
        yield "L4", "parameters that are not plain"


def find_in_statement(node, package):
    if not isinstance(node, STATEMENTS):
        yield "L6", type(node).__name__
    if isinstance(node, ast.FunctionDef):
        yield from find_in_function(node)
    if isinstance(node, ast.ClassDef) and (node.decorator_list or node.keywords or len(node.bases) > 1):
        yield "L5", "a class that is not plain"
    if isinstance(node, ast.ImportFrom):
        own = node.level == 0 and (node.module or "").startswith(package + ".")
        if not own or any(alias.name == "*" for alias in node.names):
            yield "L2", "an import that is not by the full name of an own module"
    if isinstance(node, (ast.For, ast.While)) and node.orelse:
        yield "L6", "else behind a loop"
    if isinstance(node, ast.Try) and node.finalbody:
        yield "L6", "finally"
    if isinstance(node, ast.Assign) and len(node.targets) > 1:
        yield "L6", "several targets"


def find_in_expression(node, walked):
    if not isinstance(node, EXPRESSIONS):
        yield "L7", type(node).__name__
    if isinstance(node, ast.Constant) and isinstance(node.value, (float, complex, bytes)):
        yield "L7", "a value of a kind that is not used"
    if isinstance(node, ast.Constant) and isinstance(node.value, str) and "%" in node.value:
        yield "L27", "the sign % within a text"
    if isinstance(node, ast.BinOp) and isinstance(node.op, (ast.Div, ast.MatMult)):
        yield "L7", "an operator that is not used"
    if isinstance(node, ast.ListComp) and (len(node.generators) > 1 or len(node.generators[0].ifs) > 1):
        yield "L7", "more than one for or if"
    if isinstance(node, ast.Call) and isinstance(node.func, ast.Name) and node.func.id in WALKED_AT_ONCE:
        if node not in walked:
            yield "L23", f"{node.func.id} that is not walked on the spot"
    if isinstance(node, ast.Compare):
        for operator, right in zip(node.ops, node.comparators):
            if isinstance(operator, (ast.Is, ast.IsNot)) and not isinstance(right, ast.Constant):
                yield "L20", "is beside another value than None, True, False"


def walked_on_the_spot(tree):
    walked = set()
    for node in ast.walk(tree):
        if isinstance(node, (ast.For, ast.comprehension)):
            walked.add(node.iter)
        if isinstance(node, ast.Call):
            walked.update(node.args)
    return walked


def find_in_code(tree, package):
    walked = walked_on_the_spot(tree)
    methods = {part for node in ast.walk(tree) if isinstance(node, ast.ClassDef) for part in node.body}
    for node in ast.walk(tree):
        found = list(find_in_names(node, methods))
        if isinstance(node, ast.stmt):
            found.extend(find_in_statement(node, package))
        if isinstance(node, ast.expr):
            found.extend(find_in_expression(node, walked))
        for rule, words in found:
            yield node.lineno, rule, words


def find_in_folder(folder):
    for path in sorted(folder.rglob("*")):
        if path.name == "__pycache__" or path.parent.name == "__pycache__" or path.is_dir():
            continue
        if path.suffix != ".py" or path.name != path.name.lower():
            yield path, 1, "L1", "a file that is no .py file with a plain lower-case name"
            continue
        text = path.read_text(encoding="utf-8")
        for finding in list(find_in_text(text)) + list(find_in_code(ast.parse(text), folder.name)):
            yield (path,) + finding
    if not (folder / "__init__.py").is_file():
        yield folder, 1, "L14", "no __init__.py"


def main():
    found = list(find_in_folder(pathlib.Path(sys.argv[1])))
    for path, line, rule, words in found:
        print(f"{path}:{line}: {rule} {words}")
    return 1 if found else 0


if __name__ == "__main__":
    sys.exit(main())
