"""Looks through a file of the package for what lies outside the part of Python that it keeps to.

faults(text, fields, methods) tells a list of (rule, line). Not every rule can be seen here; those that can are
looked at strictly.
"""

import ast
import builtins
import re

BUILTINS = set("""len range enumerate zip min max sum abs sorted reversed int str bool list tuple dict set frozenset
    isinstance ord repr any all divmod Exception ValueError TypeError KeyError IndexError LookupError
    ZeroDivisionError ArithmeticError OverflowError RuntimeError NotImplementedError AttributeError
    StopIteration""".split())
METHODS = set("""append clear copy count endswith extend find get index insert isalnum isalpha isdigit islower isspace
    isupper items join keys ljust lower lstrip partition pop remove replace reverse rfind rjust rpartition rsplit
    rstrip setdefault split splitlines startswith strip update upper values zfill bit_length""".split())
SPECIAL = {"__init__", "__eq__", "__repr__", "__str__", "__len__"}
UNUSED = set("""register mro elements open input version_info with_traceback add_note format format_map""".split())
WORDS = re.compile(r"\b(type|typing|typing_extensions|enum|Enum|IntEnum|StrEnum|Flag|IntFlag|Generic|Protocol|ABC"
                   r"|ABCMeta|namedtuple|NamedTuple|TypedDict|TYPE_CHECKING|abstractmethod)\b"
                   r"|dataclass|overload|contextmanager")
STATEMENTS = (ast.Assign, ast.AugAssign, ast.If, ast.While, ast.For, ast.Return, ast.Break, ast.Continue, ast.Pass,
              ast.Raise, ast.Try, ast.Expr, ast.FunctionDef)
EXPRESSIONS = (ast.Constant, ast.Name, ast.List, ast.Tuple, ast.Dict, ast.Set, ast.BinOp, ast.UnaryOp, ast.Compare,
               ast.BoolOp, ast.IfExp, ast.Call, ast.Attribute, ast.Subscript, ast.Slice, ast.ListComp, ast.JoinedStr,
               ast.FormattedValue, ast.Lambda)
LIMITS = (40, 400, 120)


def classes_in(tree):
    return [node for node in tree.body if isinstance(node, ast.ClassDef)]


def methods_in(tree):
    return {part.name for node in classes_in(tree) for part in node.body if isinstance(part, ast.FunctionDef)}


def fields_in(tree):
    return {node.attr for node in ast.walk(tree) if isinstance(node, ast.Attribute) and isinstance(node.ctx, ast.Store)}


def bound_at_top(tree):
    found = {}
    for node in tree.body:
        if isinstance(node, ast.ImportFrom):
            names = [part.asname or part.name for part in node.names]
        elif isinstance(node, (ast.FunctionDef, ast.ClassDef)):
            names = [node.name]
        elif isinstance(node, ast.Assign):
            names = [target.id for target in node.targets if isinstance(target, ast.Name)]
        else:
            names = []
        for name in names:
            found.setdefault(name, []).append(node)
    return found


def is_plain(node):
    if isinstance(node, ast.Constant):
        return isinstance(node.value, (int, str)) or node.value is None
    if isinstance(node, (ast.List, ast.Tuple)):
        return all(is_plain(part) or isinstance(part, ast.Name) for part in node.elts)
    if isinstance(node, ast.Dict):
        return all(is_plain(part) or isinstance(part, ast.Name) for part in node.keys + node.values)
    return isinstance(node, ast.UnaryOp) and isinstance(node.op, ast.USub) and is_plain(node.operand)


def is_docstring(node):
    return isinstance(node, ast.Expr) and isinstance(node.value, ast.Constant) and isinstance(node.value.value, str)


class Looker:
    def __init__(self, text, fields, methods):
        self.text = text
        self.tree = ast.parse(text)
        self.fields = fields
        self.methods = methods
        self.found = []

    def fault(self, rule, node):
        self.found.append((rule, node if isinstance(node, int) else node.lineno))

    def look(self):
        self.look_at_lines()
        self.look_at_top()
        self.look_at_names()
        for node in ast.walk(self.tree):
            if isinstance(node, ast.stmt):
                self.look_at_statement(node)
            if isinstance(node, ast.expr):
                self.look_at_expression(node)
            if isinstance(node, ast.FunctionDef):
                self.look_at_function(node)
            if isinstance(node, ast.comprehension) and (node.is_async or len(node.ifs) > 1):
                self.fault("L7", self.tree.body[0])
        return sorted(set(self.found))

    def look_at_lines(self):
        lines = self.text.split("\n")
        if len(lines) > LIMITS[1] + 1:
            self.fault("L10", len(lines))
        for number, line in enumerate(lines, start=1):
            if len(line) > LIMITS[2] or "\t" in line:
                self.fault("L10", number)
            if any(not " " <= sign <= "~" for sign in line):
                self.fault("L14", number)
            if WORDS.search(line):
                self.fault("L17", number)

    def look_at_top(self):
        for place, node in enumerate(self.tree.body):
            if isinstance(node, ast.ImportFrom):
                if node.level or not re.fullmatch(r"phialhouse\.[a-z_0-9]+", node.module or ""):
                    self.fault("L2", node)
                if any(part.name == "*" or part.asname for part in node.names):
                    self.fault("L2", node)
            elif isinstance(node, ast.ClassDef):
                self.look_at_class(node)
            elif isinstance(node, ast.Assign):
                if not is_plain(node.value) or not isinstance(node.targets[0], ast.Name):
                    self.fault("L3", node)
            elif not isinstance(node, ast.FunctionDef) and not (place == 0 and is_docstring(node)):
                self.fault("L3", node)
        for nodes in bound_at_top(self.tree).values():
            if len(nodes) > 1:
                self.fault("L15", nodes[1])

    def look_at_class(self, node):
        if node.decorator_list or node.keywords or len(node.bases) > 1:
            self.fault("L5", node)
        names = [part.name for part in node.body if isinstance(part, ast.FunctionDef)]
        if len(set(names)) < len(names):
            self.fault("L18", node)
        for part in node.body:
            if not isinstance(part, (ast.FunctionDef, ast.Pass)):
                self.fault("L5", part)

    def look_at_names(self):
        for node in ast.walk(self.tree):
            for name in [getattr(node, key, None) for key in ("id", "arg", "attr", "name")]:
                if isinstance(name, str) and name not in SPECIAL and not re.fullmatch(r"[A-Za-z][A-Za-z0-9_]*", name):
                    self.fault("L12", getattr(node, "lineno", 1))
                if name in UNUSED:
                    self.fault("L17", getattr(node, "lineno", 1))

    def look_at_statement(self, node):
        if isinstance(node, (ast.ImportFrom, ast.ClassDef)):
            if node not in self.tree.body:
                self.fault("L15", node)
            return
        if not isinstance(node, STATEMENTS):
            self.fault("L6", node)
        if isinstance(node, ast.Assign) and (len(node.targets) > 1 or isinstance(node.targets[0], (ast.Tuple, ast.List))):
            self.fault("L6", node)
        if isinstance(node, (ast.For, ast.While)) and node.orelse:
            self.fault("L6", node)
        if isinstance(node, ast.Expr) and not isinstance(node.value, ast.Call) and node is not self.tree.body[0]:
            self.fault("L6", node)
        if isinstance(node, ast.Try):
            self.look_at_try(node)
        if isinstance(node, ast.Raise) and not isinstance(node.exc, ast.Call):
            self.fault("L19", node)

    def look_at_try(self, node):
        if node.finalbody:
            self.fault("L6", node)
        for handler in node.handlers:
            if not isinstance(handler.type, ast.Name) or handler.type.id in ("Exception", "TypeError"):
                self.fault("L19", handler)

    def look_at_expression(self, node):
        if not isinstance(node, EXPRESSIONS):
            self.fault("L7", node)
        if isinstance(node, ast.Constant):
            self.look_at_constant(node)
        if isinstance(node, ast.ListComp) and len(node.generators) > 1:
            self.fault("L7", node)
        if isinstance(node, ast.BinOp) and isinstance(node.op, (ast.Div, ast.MatMult)):
            self.fault("L7", node)
        if isinstance(node, ast.BinOp) and isinstance(node.op, ast.Pow):
            if not isinstance(node.right, ast.Constant) or not 0 <= node.right.value <= 64:
                self.fault("L27", node)
        if isinstance(node, ast.FormattedValue) and not (isinstance(node.value, ast.Name) and node.format_spec is None):
            self.fault("L7", node)
        if isinstance(node, ast.Set):
            self.fault("L24", node)
        if isinstance(node, ast.Compare):
            for part, operator in zip(node.comparators, node.ops):
                if isinstance(operator, (ast.Is, ast.IsNot)) and not (
                        isinstance(part, ast.Constant) and part.value in (None, True, False)):
                    self.fault("L20", node)
        if isinstance(node, ast.Call):
            self.look_at_call(node)
        if isinstance(node, ast.Attribute) and node.attr not in METHODS | self.fields | self.methods | {"__init__"}:
            self.fault("L25", node)

    def look_at_constant(self, node):
        if not isinstance(node.value, (int, str)) and node.value is not None:
            self.fault("L7", node)
        if isinstance(node.value, str) and "%" in node.value:
            self.fault("L27", node)

    def look_at_call(self, node):
        if any(isinstance(part, ast.Starred) for part in node.args):
            self.fault("L7", node)
        if node.keywords and isinstance(node.func, ast.Name) and node.func.id not in ("sorted", "min", "max", "sum",
                                                                                      "enumerate", "zip"):
            if node.func.id in BUILTINS:
                self.fault("L22", node)

    def look_at_function(self, node):
        if node.end_lineno - node.lineno + 1 > LIMITS[0]:
            self.fault("L10", node)
        given = node.args
        if given.vararg or given.kwarg or given.kwonlyargs or given.posonlyargs or node.decorator_list:
            self.fault("L4", node)
        if not all(is_plain(default) for default in given.defaults):
            self.fault("L4", node)
        if node.returns or any(part.annotation for part in given.args):
            self.fault("L21", node)
        if node.name.startswith("__") and node.name not in SPECIAL:
            self.fault("L5", node)
        top = bound_at_top(self.tree)
        taken = [name for name in top if not isinstance(top[name][0], (ast.FunctionDef, ast.Assign))]
        own = [part.arg for part in given.args] + [part.id for part in ast.walk(node) if isinstance(part, ast.Name)
                                                   and isinstance(part.ctx, ast.Store)]
        for name in own:
            if name in taken or hasattr(builtins, name):
                self.fault("L15", node)
        for part in ast.walk(node):
            if isinstance(part, ast.Name) and isinstance(part.ctx, ast.Load):
                if part.id not in BUILTINS and part.id not in top and part.id not in own:
                    self.fault("L8", part)


def faults(text, fields=frozenset(), methods=frozenset()):
    looker = Looker(text, set(fields), set(methods))
    looker.fields |= fields_in(looker.tree)
    looker.methods |= methods_in(looker.tree)
    return looker.look()
