"""The rules of LANGUAGE.md that a script can see.

findings(sources) takes the files of a package, a dict from file names to texts, and returns lines such as
"L7 places.py:12 no float". Where a rule allows rare things that the package does not need, the check may be
stricter than the rule; where the rule depends on what a run does, there is no check.
"""

import ast
import builtins
import io
import re
import sys
import tokenize
import warnings

PACKAGE = "rulertrees"
LIBRARY = {
    "heapq": ("heappush", "heappop", "heapify", "heapreplace", "heappushpop"),
    "math": ("gcd", "lcm", "isqrt", "comb", "perm", "factorial"),
    "itertools": ("product", "combinations", "permutations"),
}
ERRORS = ("Exception", "ValueError", "TypeError", "KeyError", "IndexError", "LookupError", "ZeroDivisionError",
          "ArithmeticError", "OverflowError", "RuntimeError", "NotImplementedError", "AttributeError", "StopIteration")
CAUGHT = ("KeyError", "ZeroDivisionError", "StopIteration", "ValueError", "LookupError", "IndexError")
BUILTINS = ERRORS + (
    "len", "range", "enumerate", "zip", "min", "max", "sum", "abs", "sorted", "reversed", "int", "str", "bool", "bytes",
    "list", "tuple", "dict", "set", "isinstance", "ord", "repr", "any", "all", "divmod", "NotImplemented", "iter",
    "next", "map", "super", "property", "staticmethod", "classmethod", "object", "float")
CALLED_ONLY = ("len", "range", "enumerate", "zip", "sorted", "reversed", "isinstance", "ord", "any", "all", "divmod",
               "iter", "next", "map", "super", "set")
KEYWORDS = {"sorted": ("key", "reverse"), "min": ("key", "default"), "max": ("key", "default"), "sum": ("start",),
            "enumerate": ("start",), "zip": ("strict",)}
METHODS = set("""append clear copy count endswith extend find get index insert isalnum isalpha isdigit islower isspace
isupper items join keys ljust lower lstrip partition pop remove replace reverse rfind rjust rpartition rsplit rstrip
setdefault split splitlines startswith strip update upper values zfill bit_length title capitalize swapcase casefold
center expandtabs removeprefix removesuffix rindex isascii isdecimal isnumeric istitle isidentifier isprintable
translate sort add discard encode decode""".split())
BARRED_ATTRIBUTES = set("""items keys values pop update append clear extend insert remove reverse setdefault sort args
encode decode hex fromhex format format_map mro as_integer_ratio bit_count conjugate from_bytes is_integer
to_bytes""".split())
DUNDERS = set("init eq repr str len enter exit call iter lt le gt ge ne add sub mul floordiv mod pow and or xor lshift "
              "rshift radd rsub rmul rfloordiv rmod rand ror rxor rlshift rrshift iadd isub imul ifloordiv imod ipow "
              "iand ior ixor ilshift irshift neg pos invert abs bool contains getitem setitem".split())
NEVER = ("register", "mro", "elements", "open", "input", "law", "version_info", "with_traceback", "add_note")
NO_NAMES = set("""attrgetter breakpoint builtins compile copyright credits delattr dir eval exec exit gc getattr globals
hasattr help id importlib license locals methodcaller os quit setattr type vars""".split())
NO_WORDS = ("typing typing_extensions enum Enum IntEnum StrEnum Flag IntFlag Generic Protocol ABC ABCMeta namedtuple "
            "NamedTuple TypedDict TYPE_CHECKING abstractmethod").split()
NO_PREFIXES = ("_wall", "_pe_", "_dcw_", "_enum_", "_cm_", "_twin_re_", "_lay_", "_law_", "_stub_", "_sre", "_WallAttr")
NO_STARTS = re.compile(r"(_cold|_tuplegetter|_outside|_record|_written_out|_member_names)[0-9_]*$")
FRAME_NAME = re.compile(r"(f|tb|co|gi|cr)_(back|next|names|code|frame|lineno|globals|locals|builtins|lasti|consts)$")
STATEMENTS = (ast.Assign, ast.AugAssign, ast.AnnAssign, ast.If, ast.While, ast.For, ast.Return, ast.Break, ast.Continue,
              ast.Pass, ast.Raise, ast.Assert, ast.Delete, ast.Nonlocal, ast.Match, ast.With, ast.Try, ast.Expr,
              ast.FunctionDef, ast.ClassDef, ast.ImportFrom, ast.Import)
FUNCTIONS = (ast.FunctionDef, ast.Lambda)
COMPREHENSIONS = (ast.ListComp, ast.SetComp, ast.DictComp, ast.GeneratorExp)
AT_ONCE = ("list", "tuple", "dict", "sorted", "sum", "any", "all", "enumerate", "zip", "bytes", "min", "max")
VIEWS = ("items", "keys", "values")
NO_FILES = ("test", "tests", "testing", "site", "conftest", "sitecustomize", "usercustomize")


def calls(node, *names):
    """Whether a node is a call of one of these names."""
    return isinstance(node, ast.Call) and isinstance(node.func, ast.Name) and node.func.id in names


def within(node, kinds):
    """The nearest node of these kinds around a node, None if there is none."""
    node = node.parent
    while node is not None and not isinstance(node, kinds):
        node = node.parent
    return node


def is_plain(node):
    """Whether an expression is a plain value, written out."""
    if isinstance(node, ast.UnaryOp) and isinstance(node.op, ast.USub):
        return isinstance(node.operand, ast.Constant) and type(node.operand.value) is int
    if isinstance(node, (ast.Tuple, ast.List)):
        return all(is_plain(item) for item in node.elts)
    if isinstance(node, ast.Dict):
        return all(key is not None and is_plain(key) for key in node.keys) and all(map(is_plain, node.values))
    return isinstance(node, ast.Constant) and node.value is not Ellipsis and type(node.value) not in (float, complex)


def iterated_at_once(node):
    """Whether a call stands where it is iterated on the spot."""
    parent = node.parent
    if isinstance(parent, (ast.For, ast.comprehension)):
        return parent.iter is node
    if calls(parent, *AT_ONCE):
        return parent.args[0] is node or calls(parent, "zip")
    if calls(parent, *LIBRARY["itertools"]):
        return iterated_at_once(parent)
    if isinstance(parent, ast.Call) and isinstance(parent.func, ast.Attribute) and parent.func.attr == "join":
        return isinstance(parent.func.value, ast.Constant)
    return isinstance(parent, ast.YieldFrom)


class File:
    """One file of a package, with what it defines and imports."""

    def __init__(self, name, text):
        self.name, self.text = name, text
        with warnings.catch_warnings():
            warnings.simplefilter("ignore")
            self.tree = ast.parse(text)
        self.tree.parent = None
        for node in ast.walk(self.tree):
            for child in ast.iter_child_nodes(node):
                child.parent = node
        self.nodes = list(ast.walk(self.tree))
        self.imports = {}
        for node in self.nodes:
            if isinstance(node, ast.ImportFrom):
                for alias in node.names:
                    self.imports[alias.asname or alias.name] = (node.module, alias.name)
        self.functions = {node.name for node in self.tree.body if isinstance(node, ast.FunctionDef)}
        self.classes = {node.name for node in self.tree.body if isinstance(node, ast.ClassDef)}
        self.values = {node.targets[0].id for node in self.tree.body
                       if isinstance(node, ast.Assign) and isinstance(node.targets[0], ast.Name)}

    def of(self, *kinds):
        return [node for node in self.nodes if isinstance(node, kinds)]


class Package:
    """All files of a package; each method named after a rule yields (file, line, what is wrong)."""

    def __init__(self, sources):
        self.files = [File(name, text) for name, text in sources.items()]
        self.by_module = {PACKAGE + "." + file.name[:-3]: file for file in self.files}
        self.classes = set().union(*(file.classes for file in self.files))
        self.methods, self.attributes, self.generators = set(), set(), set()
        for file in self.files:
            for node in file.of(ast.FunctionDef):
                if isinstance(node.parent, ast.ClassDef):
                    self.methods.add(node.name)
            for node in file.of(ast.Yield, ast.YieldFrom):
                self.generators.add(within(node, ast.FunctionDef).name)
            for node in file.of(ast.Attribute):
                if isinstance(node.ctx, ast.Store):
                    self.attributes.add(node.attr)

    def bindings(self, file):
        """Each name that something in a function is called, with its node."""
        for node in file.nodes:
            if isinstance(node, ast.arg):
                yield node.arg, node
            elif isinstance(node, ast.Name) and isinstance(node.ctx, ast.Store):
                yield node.id, node
            elif isinstance(node, ast.ExceptHandler) and node.name:
                yield node.name, node
            elif isinstance(node, (ast.MatchAs, ast.MatchStar)) and node.name:
                yield node.name, node
            elif isinstance(node, ast.FunctionDef) and not isinstance(node.parent, ast.ClassDef):
                yield node.name, node
            elif isinstance(node, ast.ClassDef):
                yield node.name, node

    def rule_L1(self):
        for file in self.files:
            if not re.fullmatch(r"[A-Za-z0-9_]+\.py", file.name):
                yield file, 1, "no plain file name"

    def rule_L2(self):
        for file in self.files:
            top = True
            for node in file.tree.body:
                if isinstance(node, (ast.Import, ast.ImportFrom)):
                    if not top:
                        yield file, node.lineno, "import below the top"
                elif not (isinstance(node, ast.Expr) and isinstance(node.value, ast.Constant)):
                    top = False
            for node in file.of(ast.Import, ast.ImportFrom):
                if node.parent is not file.tree:
                    yield file, node.lineno, "import below the top"
            for node in file.of(ast.Import):
                if file.name != "__main__.py" or [alias.name for alias in node.names] != ["sys"]:
                    yield file, node.lineno, "import of a module"
            for node in file.of(ast.ImportFrom):
                yield from self.check_import(file, node)
            library = [name for name, (module, _) in file.imports.items() if module in LIBRARY]
            for node in file.of(ast.Name):
                if node.id in library and isinstance(node.ctx, ast.Load):
                    call = node.parent
                    if not isinstance(call, ast.Call) or call.func is not node or call.keywords:
                        yield file, node.lineno, "library name that is not called by position"
                    elif within(node, ast.FunctionDef) is None:
                        yield file, node.lineno, "library name called at module level"
                    elif node.id in LIBRARY["itertools"] and not iterated_at_once(call):
                        yield file, node.lineno, "product that is not iterated at once"

    def check_import(self, file, node):
        names = [alias.name for alias in node.names]
        if node.level or "*" in names:
            yield file, node.lineno, "import with a dot or a star"
        elif node.module in LIBRARY:
            if any(alias.asname for alias in node.names) or not set(names) <= set(LIBRARY[node.module]):
                yield file, node.lineno, "import from the library"
        elif node.module == "__future__":
            if names != ["annotations"]:
                yield file, node.lineno, "import from __future__"
        elif node.module not in self.by_module or node.module.endswith("__main__"):
            yield file, node.lineno, "import from outside of the package"

    def rule_L3(self):
        for file in self.files:
            for place, node in enumerate(file.tree.body):
                if isinstance(node, (ast.Import, ast.ImportFrom, ast.FunctionDef, ast.ClassDef)):
                    continue
                if isinstance(node, ast.Expr) and isinstance(node.value, ast.Constant) and place == 0:
                    continue
                if isinstance(node, ast.Assign) and len(node.targets) == 1 and isinstance(node.targets[0], ast.Name):
                    if is_plain(node.value):
                        continue
                if isinstance(node, ast.If) and file.name == "__main__.py":
                    continue
                yield file, node.lineno, "statement at module level"

    def rule_L4(self):
        for file in self.files:
            for node in file.of(ast.FunctionDef):
                for decorator in node.decorator_list:
                    plain = isinstance(decorator, ast.Name) and decorator.id in ("property", "staticmethod", "classmethod")
                    setter = isinstance(decorator, ast.Attribute) and decorator.attr == "setter"
                    if not (plain or setter) or not isinstance(node.parent, ast.ClassDef):
                        yield file, node.lineno, "decorator"
            for node in file.of(*FUNCTIONS):
                for default in node.args.defaults + [one for one in node.args.kw_defaults if one is not None]:
                    if not is_plain(default) or isinstance(default, (ast.List, ast.Dict)):
                        yield file, node.lineno, "default value that is not plain"

    def rule_L5(self):
        for file in self.files:
            for node in file.of(ast.ClassDef):
                if node.decorator_list or node.keywords or not all(isinstance(base, ast.Name) for base in node.bases):
                    yield file, node.lineno, "class with a decorator, a keyword or a strange base"
                for part in node.body:
                    if isinstance(part, ast.FunctionDef):
                        if part.name.startswith("__") and part.name[2:-2] not in DUNDERS:
                            yield file, part.lineno, "double-underscore method"
                    elif isinstance(part, ast.Assign):
                        if not is_plain(part.value) or isinstance(part.value, (ast.List, ast.Dict)):
                            yield file, part.lineno, "class value"
                    elif not isinstance(part, ast.Pass) and not (
                            isinstance(part, ast.Expr) and isinstance(part.value, ast.Constant)):
                        yield file, part.lineno, "statement in a class"

    def rule_L6(self):
        for file in self.files:
            for node in file.of(ast.stmt):
                if not isinstance(node, STATEMENTS):
                    yield file, node.lineno, "statement that is not allowed"
                elif isinstance(node, ast.Expr) and not isinstance(node.value, (ast.Call, ast.Yield, ast.YieldFrom)):
                    body = getattr(node.parent, "body", [])
                    docstring = isinstance(node.value, ast.Constant) and isinstance(node.value.value, str)
                    if not docstring or not isinstance(body, list) or body[0] is not node or isinstance(
                            node.parent, (ast.If, ast.For, ast.While, ast.With, ast.Try)):
                        yield file, node.lineno, "expression as a statement"
                elif isinstance(node, ast.Delete) and any(isinstance(one, ast.Attribute) for one in node.targets):
                    yield file, node.lineno, "attribute deleted"
            for node in file.of(ast.ExceptHandler):
                if node.type is None:
                    yield file, node.lineno, "bare except"

    def rule_L7(self):
        for file in self.files:
            for node in file.nodes:
                if isinstance(node, ast.Constant) and type(node.value) in (float, complex):
                    yield file, node.lineno, "float"
                elif isinstance(node, (ast.BinOp, ast.AugAssign)) and isinstance(node.op, (ast.Div, ast.MatMult)):
                    yield file, node.lineno, "operator"
                elif isinstance(node, COMPREHENSIONS) and within(node, FUNCTIONS) is None:
                    yield file, node.lineno, "comprehension at module level"
                elif isinstance(node, (ast.Await, ast.AsyncFunctionDef)):
                    yield file, node.lineno, "async"
                elif isinstance(node, ast.FormattedValue) and node.conversion == 97:
                    yield file, node.lineno, "conversion !a"
                elif isinstance(node, ast.GeneratorExp) and not self.generator_stands_well(node):
                    yield file, node.lineno, "generator expression"
                elif isinstance(node, ast.NamedExpr) and isinstance(within(node, ast.stmt), (ast.Assert, ast.Return)):
                    yield file, node.lineno, ":= outside of a test"
                elif isinstance(node, ast.Attribute) and node.attr in ("to_bytes", "fromhex") or calls(node, "bytes"):
                    yield file, node.lineno, "bytes made"

    def generator_stands_well(self, node):
        call = node.parent
        if isinstance(call, ast.Call) and isinstance(call.func, ast.Attribute):
            return call.func.attr == "join" and isinstance(call.func.value, ast.Constant)
        if not calls(call, "list", "tuple", "dict", "sorted", "sum", "min", "max", "any", "all", "next"):
            return False
        return call.args[0] is node and all(isinstance(one, (ast.Name, ast.Constant)) for one in call.args[1:])

    def rule_L8(self):
        for file in self.files:
            for node in file.of(ast.Name):
                known = BUILTINS + (("print",) if file.name == "__main__.py" else ())
                if hasattr(builtins, node.id) and isinstance(node.ctx, ast.Load) and node.id not in known:
                    if node.id not in file.functions | file.classes | set(file.imports):
                        yield file, node.lineno, "builtin " + node.id
                if node.id.startswith("__") and not (file.name == "__main__.py" and node.id == "__name__"):
                    yield file, node.lineno, "name with two underscores"
            for node in file.of(ast.Attribute):
                if node.attr in ("format", "format_map", "mro"):
                    yield file, node.lineno, "attribute " + node.attr
                if node.attr.startswith("__") and node.attr not in ("__init__", "__class__", "__name__"):
                    yield file, node.lineno, "attribute " + node.attr

    def rule_L9(self):
        for file in self.files:
            for node in file.of(ast.Name):
                if node.id in ("print", "sys") and file.name != "__main__.py":
                    yield file, node.lineno, "output outside of __main__.py"

    def rule_L10(self):
        for file in self.files:
            lines = file.text.split("\n")
            if len(lines) - 1 > 399:
                yield file, 400, "file of more than 399 lines"
            for number, line in enumerate(lines, 1):
                if len(line) > 120 or "\t" in line:
                    yield file, number, "long line or tab"
            for node in file.of(ast.FunctionDef):
                if node.end_lineno - node.lineno + 1 > 40:
                    yield file, node.lineno, "function of more than 40 lines"

    def rule_L12(self):
        for file in self.files:
            names = list(self.bindings(file))
            names += [(node.name, node) for node in file.of(ast.FunctionDef)]
            names += [(node.attr, node) for node in file.of(ast.Attribute)]
            names += [(alias.asname or alias.name, alias) for alias in file.of(ast.alias)]
            for name, node in names:
                line = getattr(node, "lineno", 1)
                if not re.fullmatch(r"_?[A-Za-z][A-Za-z0-9_]*|_|__[a-z]+__", name):
                    yield file, line, "name " + name
                if not isinstance(node, ast.Attribute) and name.startswith(NO_PREFIXES) or NO_STARTS.match(name):
                    yield file, line, "name " + name
                if isinstance(node, ast.ClassDef) and not name[0].isalpha():
                    yield file, line, "class " + name
            for node in file.of(ast.Name):
                if node.id == "_" and isinstance(node.ctx, ast.Load):
                    yield file, node.lineno, "_ is read"
            if re.search(r"\b(_wall|_WallAttr)\b", file.text):
                yield file, 1, "word that stands nowhere"

    def rule_L13(self):
        for file in self.files:
            for node in file.of(ast.Set):
                many = sum(isinstance(one, ast.Constant) and type(one.value) is int for one in node.elts)
                if many >= 3 and not isinstance(node.parent, ast.Compare):
                    yield file, node.lineno, "set of three integers"
            seen = {}
            for node in file.of(ast.Lambda):
                key = (node.lineno, tuple(one.arg for one in node.args.args))
                if key in seen:
                    yield file, node.lineno, "two lambdas on one line"
                seen[key] = True

    def rule_L14(self):
        if len(self.files) > 100 or "__init__.py" not in [file.name for file in self.files]:
            yield self.files[0], 1, "number of files, or no __init__.py"
        for file in self.files:
            stem = file.name[:-3]
            barred = stem in NO_FILES or stem.startswith(("law_", "test_")) or stem in NO_WORDS or hasattr(builtins, stem)
            if stem not in ("__init__", "__main__") and (barred or stem in ("heapq", "math", "itertools")):
                yield file, 1, "file name"
            if stem != stem.lower() or PACKAGE in sys.stdlib_module_names:
                yield file, 1, "file name"
            for number, line in enumerate(file.text.split("\n"), 1):
                if not all(" " <= sign <= "~" for sign in line):
                    yield file, number, "character"

    def rule_L15(self):
        for file in self.files:
            top = [node.name for node in file.tree.body if isinstance(node, (ast.FunctionDef, ast.ClassDef))]
            top += [node.targets[0].id for node in file.tree.body if isinstance(node, ast.Assign)
                    and isinstance(node.targets[0], ast.Name)]
            for node in file.tree.body:
                if isinstance(node, ast.ImportFrom):
                    top += [alias.asname or alias.name for alias in node.names]
            for name in set(top):
                if top.count(name) > 1:
                    yield file, 1, "two bindings of " + name
                if hasattr(builtins, name):
                    yield file, 1, "binding of the builtin " + name
            for name, node in self.bindings(file):
                inside = within(node, FUNCTIONS + COMPREHENSIONS) is not None
                if inside and (name in file.classes or name in file.imports or hasattr(builtins, name)):
                    yield file, node.lineno, "local name " + name
            for node in file.of(ast.ClassDef):
                if node.parent is not file.tree:
                    yield file, node.lineno, "class in a function"
            for node in file.tree.body:
                if isinstance(node, ast.Assign) and isinstance(node.value, (ast.List, ast.Dict, ast.Tuple)):
                    inner = [one for one in ast.walk(node.value) if one is not node.value]
                    if any(isinstance(one, (ast.List, ast.Dict)) for one in inner):
                        yield file, node.lineno, "list or dict inside a module-level value"
            yield from self.check_changed_tables(file)

    def check_changed_tables(self, file):
        changing = ("append", "clear", "extend", "insert", "pop", "remove", "reverse", "setdefault", "update", "sort")
        for node in file.of(ast.Attribute, ast.Subscript):
            if isinstance(node.value, ast.Name) and node.value.id in file.values | set(file.imports):
                stored = isinstance(node.ctx, (ast.Store, ast.Del))
                if stored or isinstance(node, ast.Attribute) and node.attr in changing:
                    yield file, node.lineno, "module-level value changed"

    def rule_L16(self):
        edges = {}
        for file in self.files:
            edges[file.name] = []
            for module, name in file.imports.values():
                if module in self.by_module:
                    other = self.by_module[module]
                    edges[file.name].append(other.name)
                    if name not in other.functions | other.classes | other.values:
                        yield file, 1, name + " is not defined in " + module
        for file in self.files:
            reached, waiting = set(), list(edges[file.name])
            while waiting:
                name = waiting.pop()
                if name not in reached:
                    reached.add(name)
                    waiting += edges[name]
            if file.name in reached:
                yield file, 1, "files import from each other"

    def rule_L17(self):
        for file in self.files:
            names = list(self.bindings(file)) + [(node.name, node) for node in file.of(ast.FunctionDef)]
            names += [(alias.asname or alias.name, alias) for alias in file.of(ast.alias)]
            for name, node in names:
                if name in NEVER or name in NO_NAMES or FRAME_NAME.match(name) or (
                        name == "sys" and file.name != "__main__.py"):
                    yield file, node.lineno, "name " + name
            for node in file.of(ast.Attribute, ast.keyword):
                name = node.attr if isinstance(node, ast.Attribute) else node.arg
                if name in NEVER or name and FRAME_NAME.match(name):
                    yield file, node.value.lineno, "name " + name
            docstrings = {one.body[0].value.lineno for one in file.of(ast.Module, ast.ClassDef, ast.FunctionDef)
                          if one.body and isinstance(one.body[0], ast.Expr) and isinstance(one.body[0].value, ast.Constant)}
            for token in tokenize.generate_tokens(io.StringIO(file.text).readline):
                if token.type == tokenize.COMMENT or token.start[0] in docstrings:
                    continue
                words = re.findall(r"[A-Za-z_]+", token.string)
                if set(words) & set(NO_WORDS) or token.type == tokenize.NAME and token.string == "type":
                    yield file, token.start[0], "word " + token.string
                if re.search("dataclass|overload|contextmanager", token.string):
                    yield file, token.start[0], "word " + token.string

    def rule_L18(self):
        for file in self.files:
            known = file.classes | {name for name in file.imports if name in self.classes}
            for node in file.of(ast.Name):
                if node.id in known and isinstance(node.ctx, ast.Load) and not self.class_stands_well(node):
                    yield file, node.lineno, "class used as a value"

    def class_stands_well(self, node):
        parent = node.parent
        if isinstance(parent, ast.Tuple):
            node, parent = parent, parent.parent
        if isinstance(parent, ast.Call):
            return parent.func is node or calls(parent, "isinstance") and parent.args[1] is node
        if isinstance(parent, (ast.arg, ast.FunctionDef, ast.AnnAssign)):
            return node is not getattr(parent, "value", None)
        return isinstance(parent, (ast.ClassDef, ast.ExceptHandler, ast.Attribute))

    def rule_L19(self):
        for file in self.files:
            for node in file.of(ast.Raise):
                own = isinstance(node.exc, ast.Call) and isinstance(node.exc.func, ast.Name)
                if node.exc is None:
                    if within(node, ast.ExceptHandler) is None:
                        yield file, node.lineno, "bare raise outside of a handler"
                elif not own or node.exc.func.id not in self.classes | set(ERRORS):
                    yield file, node.lineno, "raise of what is not made on the spot"
            for node in file.of(ast.ExceptHandler):
                kinds = node.type.elts if isinstance(node.type, ast.Tuple) else [node.type]
                for kind in kinds:
                    if not isinstance(kind, ast.Name) or kind.id not in self.classes | set(CAUGHT):
                        yield file, node.lineno, "error that is not caught by its own name"

    def rule_L20(self):
        for file in self.files:
            for node in file.of(ast.Compare):
                sides = [node.left] + node.comparators
                for at, sign in enumerate(node.ops):
                    if isinstance(sign, (ast.Is, ast.IsNot)):
                        plain = [repr(one.value) for one in sides[at:at + 2] if isinstance(one, ast.Constant)]
                        if not {"None", "True", "False"} & set(plain):
                            yield file, node.lineno, "is beside other values"

    def rule_L21(self):
        for file in self.files:
            for node in file.of(ast.AnnAssign, ast.arg, ast.FunctionDef):
                annotation = node.returns if isinstance(node, ast.FunctionDef) else node.annotation
                if isinstance(node, ast.AnnAssign) and node.value is None:
                    yield file, node.lineno, "annotation without a value"
                for part in ast.walk(annotation) if annotation is not None else ():
                    if isinstance(part, (ast.Call, ast.JoinedStr, ast.Lambda, ast.Attribute)) or (
                            isinstance(part, ast.Constant) and isinstance(part.value, str)):
                        yield file, node.lineno, "annotation"

    def rule_L22(self):
        for file in self.files:
            for node in file.of(ast.Call):
                names = [one.arg for one in node.keywords]
                if isinstance(node.func, ast.Name) and hasattr(builtins, node.func.id) and node.func.id != "print":
                    if not set(names) <= set(KEYWORDS.get(node.func.id, ())):
                        yield file, node.lineno, "keyword of a builtin"
                elif isinstance(node.func, ast.Attribute) and node.func.attr in METHODS - self.methods and names:
                    if node.func.attr not in ("sort", "to_bytes", "from_bytes"):
                        yield file, node.lineno, "keyword of a method of a builtin value"
            for node in file.of(ast.Name):
                if node.id in CALLED_ONLY and isinstance(node.ctx, ast.Load) and not isinstance(node.parent, ast.keyword):
                    used = isinstance(node.parent, ast.Call) and node.parent.func is node
                    given = calls(node.parent, "map") and node.parent.args[0] is node
                    if not used and not given and not within_annotation(node):
                        yield file, node.lineno, "builtin that is not called"

    def rule_L23(self):
        for file in self.files:
            for node in file.of(ast.Call):
                view = isinstance(node.func, ast.Attribute) and node.func.attr in VIEWS and not node.args
                lazy = calls(node, "zip", "enumerate", "reversed", "range", "map", *self.generators)
                if (view or lazy) and not iterated_at_once(node) and not self.is_kept(node, view):
                    yield file, node.lineno, "not iterated at once"
            for loop in file.of(ast.For):
                name = loop.iter.id if isinstance(loop.iter, ast.Name) else None
                for node in ast.walk(loop) if name else ():
                    if isinstance(node, ast.Attribute) and isinstance(node.value, ast.Name) and node.value.id == name:
                        if node.attr in ("append", "pop", "clear", "extend", "insert", "remove", "update", "add", "sort"):
                            yield file, node.lineno, "changed in the loop over it"
                    if isinstance(node, ast.Subscript) and isinstance(node.ctx, (ast.Store, ast.Del)):
                        if isinstance(node.value, ast.Name) and node.value.id == name:
                            yield file, node.lineno, "changed in the loop over it"

    def is_kept(self, node, view):
        parent = node.parent
        if calls(node, "range") or view:
            if calls(parent, "len") or isinstance(parent, ast.Compare) and node in parent.comparators:
                return all(isinstance(sign, (ast.In, ast.NotIn)) for sign in getattr(parent, "ops", ()))
            if calls(parent, "reversed") and not view:
                return True
        if calls(node, "map") and isinstance(parent, ast.Assign):
            return isinstance(parent.targets[0], ast.Tuple)
        plain = isinstance(parent, ast.Assign) and isinstance(parent.targets[0], ast.Name)
        return plain and within(node, ast.FunctionDef) is not None and not calls(node, "map", *self.generators)

    def rule_L24(self):
        for file in self.files:
            for node in file.nodes:
                if calls(node, "frozenset"):
                    yield file, node.lineno, "frozenset"
                elif isinstance(node, (ast.Set, ast.SetComp)) or calls(node, "set"):
                    parent = node.parent
                    while isinstance(parent, ast.BinOp):
                        parent = parent.parent
                    stored = isinstance(parent, ast.Assign) and isinstance(parent.targets[0], ast.Name)
                    if not stored and not isinstance(parent, ast.Compare) and not calls(parent, "sorted", "len"):
                        yield file, node.lineno, "set"

    def rule_L25(self):
        for file in self.files:
            for node in file.of(ast.Attribute):
                called = isinstance(node.parent, ast.Call) and node.parent.func is node
                if called and node.attr not in METHODS | self.methods | self.attributes | {"__init__", "maketrans"}:
                    yield file, node.lineno, "method " + node.attr
                if not called and isinstance(node.ctx, ast.Load):
                    if node.attr in METHODS - self.methods - self.attributes:
                        yield file, node.lineno, "method that is not called"

    def rule_L26(self):
        for file in self.files:
            for node in file.of(ast.Attribute):
                if isinstance(node.ctx, ast.Store) and node.attr in BARRED_ATTRIBUTES:
                    yield file, node.lineno, "attribute " + node.attr
            for node in file.of(ast.FunctionDef):
                barred = BARRED_ATTRIBUTES - METHODS | {"decode", "encode"}
                if isinstance(node.parent, ast.ClassDef) and node.name in barred:
                    yield file, node.lineno, "method " + node.name

    def rule_L27(self):
        for file in self.files:
            for node in file.of(ast.BinOp, ast.AugAssign):
                if isinstance(node.op, ast.Pow):
                    power = node.right if isinstance(node, ast.BinOp) else node.value
                    if not isinstance(power, ast.Constant) or power.value not in range(65):
                        yield file, node.lineno, "power without a literal exponent"
            for node in file.of(ast.Constant):
                if isinstance(node.value, str):
                    text = node.value
                    framed = text.startswith("__") and text.endswith("__") and text != "__main__" and len(text) > 1
                    if "%" in text or text.endswith(("._", ".__")) or framed or FRAME_NAME.match(text):
                        yield file, node.lineno, "string"
                elif type(node.value) is int and abs(node.value) >= 10 ** 900:
                    yield file, node.lineno, "number"
            for token in tokenize.generate_tokens(io.StringIO(file.text).readline):
                if token.type == tokenize.STRING or token.type == getattr(tokenize, "FSTRING_MIDDLE", None):
                    for escape in re.findall(r"\\(.|\n)", token.string):
                        if escape not in "nt\\'\"":
                            yield file, token.start[0], "escape"
            with warnings.catch_warnings(record=True) as caught:
                warnings.simplefilter("always")
                compile(file.text, file.name, "exec")
            for warning in caught:
                yield file, warning.lineno, "warning"

    def rule_L28(self):
        for file in self.files:
            for node in file.of(ast.FunctionDef):
                if not node.name.startswith("__"):
                    continue
                if not isinstance(node.parent, ast.ClassDef):
                    yield file, node.lineno, "double-underscore function outside of a class"
                returns = [one for one in ast.walk(node) if isinstance(one, ast.Return) and one.value is not None]
                if node.name == "__init__" and returns:
                    yield file, node.lineno, "__init__ returns something"
                if node.name in ("__repr__", "__str__", "__len__") and not isinstance(node.body[-1], ast.Return):
                    yield file, node.lineno, "no return at the end"


def within_annotation(node):
    """Whether a name stands in an annotation."""
    while isinstance(node.parent, (ast.Subscript, ast.Tuple, ast.BinOp)):
        node = node.parent
    return isinstance(node.parent, (ast.arg, ast.AnnAssign)) and node is not getattr(node.parent, "value", None)


def findings(sources):
    """What breaks a rule, as lines with the number of the rule, the file and the line."""
    package = Package(sources)
    found = []
    for name in sorted(dir(package)):
        if name.startswith("rule_"):
            for file, line, what in getattr(package, name)():
                found.append(f"{name[5:]} {file.name}:{line} {what}")
    return found
