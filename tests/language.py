"""Looks through a file of the package for what lies outside the part of Python that it keeps to.

faults(text, fields, methods) tells a list of (rule, line). Not every rule can be seen here; those that can are
looked at strictly.
"""

import ast
import builtins
import re

BUILTINS = set("""len range enumerate zip min max sum abs sorted reversed int str bool list tuple dict set frozenset
    isinstance ord repr any all divmod Exception ValueError TypeError KeyError IndexError LookupError
    ZeroDivisionError ArithmeticError OverflowError RuntimeError NotImplementedError AttributeError
    StopIteration""".split())
METHODS = set("""append clear copy count endswith extend find get index insert isalnum isalpha isdigit islower isspace
    isupper items join keys ljust lower lstrip partition pop remove replace reverse rfind rjust rpartition rsplit
    rstrip setdefault split splitlines startswith strip update upper values zfill bit_length""".split())
SPECIAL = {"__init__", "__eq__", "__repr__", "__str__", "__len__"}
UNUSED = set("""register mro elements open input version_info with_traceback add_note format format_map""".split())
WORDS = re.compile(r"\b(type|typing|typing_extensions|enum|Enum|IntEnum|StrEnum|Flag|IntFlag|Generic|Protocol|ABC"
                   r"|ABCMeta|namedtuple|NamedTuple|TypedDict|TYPE_CHECKING|abstractmethod)\b"
                   r"|dataclass|overload|contextmanager")
STATEMENTS = (ast.Assign, ast.AugAssign, ast.If, ast.While, ast.For, ast.Return, ast.Break, ast.Continue, ast.Pass,
              ast.Raise, ast.Try, ast.Expr, ast.FunctionDef)
EXPRESSIONS = (ast.Constant, ast.Name, ast.List, ast.Tuple, ast.Dict, ast.Set, ast.BinOp, ast.UnaryOp, ast.Compare,
               ast.BoolOp, ast.IfExp, ast.Call, ast.Attribute, ast.Subscript, ast.Slice, ast.ListComp, ast.JoinedStr,
               ast.FormattedValue, ast.Lambda)
LIMITS = (40, 400, 120)
NO_NAMES = set("""attrgetter breakpoint builtins compile copyright credits delattr dir eval exec exit gc getattr globals
    hasattr help id importlib license locals methodcaller os quit setattr super type vars sys""".split())
# Names that a method of the package's own may share with Python's own values, and those that a value may share.
OWN_METHODS = METHODS | {"add", "discard"}
OWN_VALUES = {"count", "index", "title", "find", "get", "join", "lower", "upper", "split", "strip", "copy", "add"}
PYTHONS = set().union(*[dir(kind) for kind in (str, int, list, dict, set, bytes, tuple)])
CHANGES = {"append", "clear", "extend", "insert", "pop", "remove", "reverse", "setdefault", "update"}
WALKERS = {"zip", "enumerate", "reversed", "range"}
VIEWS = {"items", "keys", "values"}
TAKERS = {"list", "tuple", "dict", "sorted", "sum", "any", "all", "enumerate", "zip", "min", "max", "len"}
ERRORS = {name for name in BUILTINS if name[0].isupper()}
KINDS = {"int", "str", "bool", "list", "tuple", "dict"}
KEYS = {"len", "int", "str", "abs", "sum", "min", "max", "tuple"}
KEYWORDS = {"sorted": {"key", "reverse"}, "min": {"key", "default"}, "max": {"key", "default"}, "sum": {"start"},
            "enumerate": {"start"}, "zip": {"strict"}}


def classes_in(tree):
    return [node for node in tree.body if isinstance(node, ast.ClassDef)]


def methods_in(tree):
    return {part.name for node in classes_in(tree) for part in node.body if isinstance(part, ast.FunctionDef)}


def fields_in(tree):
    return {node.attr for node in ast.walk(tree) if isinstance(node, ast.Attribute) and isinstance(node.ctx, ast.Store)}


def bound_at_top(tree):
    found = {}
    for node in tree.body:
        if isinstance(node, ast.ImportFrom):
            names = [part.asname or part.name for part in node.names]
        elif isinstance(node, (ast.FunctionDef, ast.ClassDef)):
            names = [node.name]
        elif isinstance(node, ast.Assign):
            names = [target.id for target in node.targets if isinstance(target, ast.Name)]
        else:
            names = []
        for name in names:
            found.setdefault(name, []).append(node)
    return found


def is_plain(node, functions=()):
    if isinstance(node, ast.Constant):
        return isinstance(node.value, (int, str)) or node.value is None
    if isinstance(node, ast.Name):
        return node.id in functions
    if isinstance(node, (ast.List, ast.Tuple)):
        return all(is_plain(part, functions) for part in node.elts)
    if isinstance(node, ast.Dict):
        return all(is_plain(part, functions) for part in node.keys + node.values)
    return isinstance(node, ast.UnaryOp) and isinstance(node.op, ast.USub) and is_plain(node.operand)


def holds_kept(node):
    """Whether a list or dict stands within a list or dict."""
    inner = [part for part in ast.walk(node) if part is not node and isinstance(part, (ast.List, ast.Dict))]
    return isinstance(node, (ast.List, ast.Dict)) and bool(inner)


def is_call_of(node, names):
    return isinstance(node, ast.Call) and isinstance(node.func, ast.Name) and node.func.id in names


def is_view(node):
    return isinstance(node, ast.Call) and isinstance(node.func, ast.Attribute) and node.func.attr in VIEWS


def outermost(tree):
    """The functions of a file's top and the methods of its classes."""
    found = [node for node in tree.body if isinstance(node, ast.FunctionDef)]
    for node in classes_in(tree):
        found += [part for part in node.body if isinstance(part, ast.FunctionDef)]
    return found


def is_docstring(node):
    return isinstance(node, ast.Expr) and isinstance(node.value, ast.Constant) and isinstance(node.value.value, str)


class Looker:
    def __init__(self, text, fields, methods):
        self.text = text
        self.tree = ast.parse(text)
        self.fields = fields
        self.methods = methods
        self.found = []
        self.above = {}
        for node in ast.walk(self.tree):
            for part in ast.iter_child_nodes(node):
                self.above[part] = node

    def fault(self, rule, node):
        self.found.append((rule, node if isinstance(node, int) else node.lineno))

    def look(self):
        self.look_at_lines()
        self.look_at_top()
        self.look_at_names()
        for node in ast.walk(self.tree):
            if isinstance(node, ast.stmt):
                self.look_at_statement(node)
            if isinstance(node, ast.expr):
                self.look_at_expression(node)
            if isinstance(node, ast.FunctionDef):
                self.look_at_function(node)
            if isinstance(node, ast.comprehension) and (node.is_async or len(node.ifs) > 1):
                self.fault("L7", self.tree.body[0])
            if isinstance(node, ast.Name) and isinstance(node.ctx, ast.Load):
                self.look_at_use(node)
            if isinstance(node, ast.For):
                self.look_at_walk(node)
            if is_call_of(node, WALKERS) or is_view(node):
                self.look_at_walker(node)
            if is_call_of(node, {"set", "frozenset"}):
                self.look_at_set(node)
        for node in outermost(self.tree):
            self.look_at_scope(node)
        self.look_at_lambdas()
        return sorted(set(self.found))

    def look_at_lines(self):
        lines = self.text.split("\n")
        if len(lines) > LIMITS[1] + 1:
            self.fault("L10", len(lines))
        for number, line in enumerate(lines, start=1):
            if len(line) > LIMITS[2] or "\t" in line:
                self.fault("L10", number)
            if any(not " " <= sign <= "~" for sign in line):
                self.fault("L14", number)
            if WORDS.search(line):
                self.fault("L17", number)
            if re.search(r"\\(?![nt'\"\\])", line.replace("\\\\", "")):
                self.fault("L27", number)

    def look_at_top(self):
        for place, node in enumerate(self.tree.body):
            if isinstance(node, ast.ImportFrom):
                if node.level or not re.fullmatch(r"phialhouse\.[a-z_0-9]+", node.module or ""):
                    self.fault("L2", node)
                if any(part.name == "*" or part.asname for part in node.names):
                    self.fault("L2", node)
            elif isinstance(node, ast.ClassDef):
                self.look_at_class(node)
            elif isinstance(node, ast.Assign):
                functions = [part.name for part in self.tree.body[:place] if isinstance(part, ast.FunctionDef)]
                if not is_plain(node.value, functions) or not isinstance(node.targets[0], ast.Name):
                    self.fault("L3", node)
                if holds_kept(node.value):
                    self.fault("L15", node)
            elif not isinstance(node, ast.FunctionDef) and not (place == 0 and is_docstring(node)):
                self.fault("L3", node)
        for nodes in bound_at_top(self.tree).values():
            if len(nodes) > 1:
                self.fault("L15", nodes[1])

    def look_at_class(self, node):
        if node.decorator_list or node.keywords or len(node.bases) > 1:
            self.fault("L5", node)
        names = [part.name for part in node.body if isinstance(part, ast.FunctionDef)]
        if len(set(names)) < len(names):
            self.fault("L18", node)
        for part in node.body:
            if not isinstance(part, (ast.FunctionDef, ast.Pass)):
                self.fault("L5", part)

    def look_at_names(self):
        for node in ast.walk(self.tree):
            for name in [getattr(node, key, None) for key in ("id", "arg", "attr", "name")]:
                if isinstance(name, str) and name not in SPECIAL and not re.fullmatch(r"[A-Za-z][A-Za-z0-9_]*", name):
                    self.fault("L12", getattr(node, "lineno", 1))
                if name in UNUSED or (name in NO_NAMES and isinstance(node, (ast.Name, ast.arg, ast.FunctionDef))):
                    self.fault("L17", getattr(node, "lineno", 1))

    def look_at_statement(self, node):
        if isinstance(node, (ast.ImportFrom, ast.ClassDef)):
            if node not in self.tree.body:
                self.fault("L15", node)
            return
        if not isinstance(node, STATEMENTS):
            self.fault("L6", node)
        if isinstance(node, ast.Assign) and (len(node.targets) > 1 or isinstance(node.targets[0], (ast.Tuple, ast.List))):
            self.fault("L6", node)
        if isinstance(node, (ast.For, ast.While)) and node.orelse:
            self.fault("L6", node)
        if isinstance(node, ast.Expr) and not isinstance(node.value, ast.Call) and node is not self.tree.body[0]:
            self.fault("L6", node)
        if isinstance(node, ast.Try):
            self.look_at_try(node)
        if isinstance(node, ast.Raise) and not isinstance(node.exc, ast.Call):
            self.fault("L19", node)

    def look_at_try(self, node):
        if node.finalbody:
            self.fault("L6", node)
        for handler in node.handlers:
            # Narrower than the rule: what is taken round Python's own calls is not taken at all.
            if not isinstance(handler.type, ast.Name) or handler.type.id in (
                    "Exception", "TypeError", "ValueError", "LookupError", "IndexError", "RuntimeError"):
                self.fault("L19", handler)

    def look_at_expression(self, node):
        if not isinstance(node, EXPRESSIONS):
            self.fault("L7", node)
        if isinstance(node, ast.Constant):
            self.look_at_constant(node)
        if isinstance(node, ast.ListComp) and len(node.generators) > 1:
            self.fault("L7", node)
        if isinstance(node, ast.BinOp) and isinstance(node.op, (ast.Div, ast.MatMult)):
            self.fault("L7", node)
        if isinstance(node, ast.BinOp) and isinstance(node.op, ast.Pow):
            if not isinstance(node.right, ast.Constant) or not 0 <= node.right.value <= 64:
                self.fault("L27", node)
        if isinstance(node, ast.FormattedValue) and not (isinstance(node.value, ast.Name) and node.format_spec is None):
            self.fault("L7", node)
        if isinstance(node, ast.Set):
            self.fault("L24", node)
        if isinstance(node, ast.Compare):
            for part, operator in zip(node.comparators, node.ops):
                if isinstance(operator, (ast.Is, ast.IsNot)) and not (
                        isinstance(part, ast.Constant) and part.value in (None, True, False)):
                    self.fault("L20", node)
        if isinstance(node, ast.Call):
            self.look_at_call(node)
        if isinstance(node, ast.Attribute) and node.attr not in METHODS | self.fields | self.methods | {"__init__"}:
            self.fault("L25", node)

    def look_at_constant(self, node):
        if not isinstance(node.value, (int, str)) and node.value is not None:
            self.fault("L7", node)
        if isinstance(node.value, str) and "%" in node.value:
            self.fault("L27", node)

    def look_at_call(self, node):
        if any(isinstance(part, ast.Starred) for part in node.args):
            self.fault("L7", node)
        given = {keyword.arg for keyword in node.keywords}
        if isinstance(node.func, ast.Name) and node.func.id in BUILTINS and given - KEYWORDS.get(node.func.id, set()):
            self.fault("L22", node)
        if isinstance(node.func, ast.Attribute) and node.func.attr in METHODS and given:
            self.fault("L22", node)
        for keyword in node.keywords:
            if keyword.arg in ("reverse", "strict") and not isinstance(keyword.value, ast.Constant):
                self.fault("L22", node)
        if is_call_of(node, {"isinstance"}):
            kinds = node.args[1].elts if isinstance(node.args[1], ast.Tuple) else [node.args[1]]
            if any(not isinstance(kind, ast.Name) for kind in kinds):
                self.fault("L22", node)

    def look_at_use(self, node):
        above = self.above[node]
        top = bound_at_top(self.tree)
        called = isinstance(above, ast.Call) and above.func is node
        if node.id in BUILTINS and not called:
            self.look_at_kept_builtin(node, above)
        if isinstance(top.get(node.id, [None])[0], ast.ClassDef) and not called:
            init = isinstance(above, ast.Attribute) and above.attr == "__init__"
            if not init and not isinstance(above, (ast.ClassDef, ast.ExceptHandler)) and not is_call_of(above, {"isinstance"}):
                self.fault("L18", node)
        bound = top.get(node.id, [None])[0]
        if isinstance(bound, ast.Assign) and isinstance(bound.value, (ast.List, ast.Dict)):
            self.look_at_kept(node, above)

    def look_at_kept_builtin(self, node, above):
        if isinstance(above, ast.Tuple):
            above = self.above[above]
        if is_call_of(above, {"isinstance"}) and node.id in KINDS | ERRORS:
            return
        if isinstance(above, (ast.ClassDef, ast.ExceptHandler)) and node.id in ERRORS:
            return
        if isinstance(above, ast.keyword) and above.arg == "key" and node.id in KEYS:
            return
        self.fault("L22", node)

    def look_at_kept(self, node, above):
        """A list or dict of the file's top is only read."""
        if isinstance(above, ast.Subscript) and above.value is node and isinstance(above.ctx, ast.Load):
            return
        if isinstance(above, (ast.For, ast.comprehension)) and above.iter is node or isinstance(above, ast.Compare):
            return
        if is_call_of(above, TAKERS | {"reversed"}):
            return
        if isinstance(above, ast.Attribute) and above.attr in {"get", "index", "count", "copy"} | VIEWS:
            return
        self.fault("L15", node)

    def look_at_walker(self, node):
        above = self.above[node]
        if isinstance(above, (ast.For, ast.comprehension)) and above.iter is node:
            return
        if is_call_of(above, TAKERS - {"len"}) and above.args[0] is node:
            return
        self.fault("L23", node)

    def look_at_walk(self, node):
        walked = node.iter
        while is_call_of(walked, {"enumerate", "zip", "reversed"}) or is_view(walked):
            walked = walked.args[0] if isinstance(walked.func, ast.Name) else walked.func.value
        if not isinstance(walked, (ast.Name, ast.Attribute, ast.Subscript)):
            return
        told = ast.dump(walked).replace("Store()", "Load()")
        for part in [inner for statement in node.body for inner in ast.walk(statement)]:
            if isinstance(part, ast.Call) and isinstance(part.func, ast.Attribute) and part.func.attr in CHANGES:
                changed = part.func.value
            elif isinstance(part, ast.Subscript) and isinstance(part.ctx, ast.Store):
                changed = part.value
            else:
                continue
            if ast.dump(changed).replace("Store()", "Load()") == told:
                self.fault("L23", part)

    def look_at_set(self, node):
        above = self.above[node]
        while isinstance(above, ast.BinOp):
            above = self.above[above]
        if isinstance(above, ast.Compare) and all(isinstance(one, (ast.In, ast.NotIn, ast.Eq, ast.NotEq)) for one in above.ops):
            return
        if is_call_of(above, {"sorted", "len"}) and not above.keywords:
            return
        self.fault("L24", node)

    def look_at_lambdas(self):
        seen = {}
        for node in ast.walk(self.tree):
            if isinstance(node, ast.Lambda):
                key = (node.lineno, tuple([part.arg for part in node.args.args]))
                if key in seen:
                    self.fault("L13", node)
                seen[key] = True

    def look_at_function(self, node):
        if node.end_lineno - node.lineno + 1 > LIMITS[0]:
            self.fault("L10", node)
        given = node.args
        if given.vararg or given.kwarg or given.kwonlyargs or given.posonlyargs or node.decorator_list:
            self.fault("L4", node)
        if not all(is_plain(default) for default in given.defaults):
            self.fault("L4", node)
        if node.returns or any(part.annotation for part in given.args):
            self.fault("L21", node)
        if node.name.startswith("__") and node.name not in SPECIAL:
            self.fault("L5", node)
        if node.name == "__init__" and [part for part in ast.walk(node) if isinstance(part, ast.Return)]:
            self.fault("L28", node)

    def look_at_scope(self, node):
        """Names within a function of the file's top, those of functions and lambdas within it counted in."""
        top = bound_at_top(self.tree)
        taken = [name for name in top if not isinstance(top[name][0], (ast.FunctionDef, ast.Assign))]
        own = [part.arg for part in ast.walk(node) if isinstance(part, ast.arg)]
        own += [part.id for part in ast.walk(node) if isinstance(part, ast.Name) and isinstance(part.ctx, ast.Store)]
        own += [part.name for part in ast.walk(node) if isinstance(part, ast.ExceptHandler) and part.name]
        own += [part.name for part in ast.walk(node) if isinstance(part, ast.FunctionDef) and part is not node]
        for name in own:
            if name in taken or hasattr(builtins, name):
                self.fault("L15", node)
        for part in ast.walk(node):
            if isinstance(part, ast.Name) and isinstance(part.ctx, ast.Load):
                if part.id not in BUILTINS and part.id not in top and part.id not in own:
                    self.fault("L8", part)


def faults(text, fields=frozenset(), methods=frozenset()):
    looker = Looker(text, set(fields), set(methods))
    looker.fields |= fields_in(looker.tree)
    looker.methods |= methods_in(looker.tree)
    return looker.look()
