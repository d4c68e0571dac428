"""Holds source files against those rules of LANGUAGE.md that a script can hold them against.

`faults(path, text)` checks one file by itself, `package_faults(files)` all files of the package together,
`files` being a dict of the texts by their paths below the package. Each fault is (rule, path, line, what).
"""

import ast
import builtins
import keyword
import re
import sys

PACKAGE = "steamlinks"
LIBRARY = {
    "heapq": {"heappush", "heappop", "heapify", "heapreplace", "heappushpop"},
    "math": {"gcd", "lcm", "isqrt", "comb", "perm", "factorial"},
    "itertools": {"product", "combinations", "permutations"},
}
LIBRARY_NAMES = set().union(*LIBRARY.values())
BUILTINS = set("""len range enumerate zip min max sum abs sorted reversed int str bool bytes list tuple dict set frozenset
isinstance ord repr any all divmod Exception ValueError TypeError KeyError IndexError LookupError ZeroDivisionError
ArithmeticError OverflowError RuntimeError NotImplementedError AttributeError StopIteration NotImplemented iter next super
property staticmethod classmethod""".split())
ALL_BUILTINS = {name for name in dir(builtins) if not name.startswith("_")}
METHODS = set("""append clear copy count endswith extend find get index insert isalnum isalpha isdigit islower isspace
isupper items join keys ljust lower lstrip partition pop remove replace reverse rfind rjust rpartition rsplit rstrip
setdefault split splitlines startswith strip update upper values zfill bit_length title capitalize swapcase casefold center
expandtabs removeprefix removesuffix rindex isascii isdecimal isnumeric istitle isidentifier isprintable sort add discard
encode decode hex translate maketrans""".split())
BARRED_ATTRIBUTES = set("""items keys values pop update append clear extend insert remove reverse setdefault sort args encode
decode hex fromhex format format_map mro as_integer_ratio bit_count conjugate from_bytes is_integer to_bytes""".split())
DOUBLE = set("""init eq repr str len enter exit call iter lt le gt ge ne add sub mul floordiv mod pow and or xor lshift rshift
radd rsub rmul rfloordiv rmod rand ror rxor rlshift rrshift iadd isub imul ifloordiv imod ipow iand ior ixor ilshift irshift
neg pos invert abs bool contains getitem setitem slots all version name class""".split())
DOUBLE = {f"__{name}__" for name in DOUBLE}
NEVER = set("register mro elements open input law version_info with_traceback add_note".split())
NO_NAMES = set("""attrgetter breakpoint builtins compile copyright credits delattr dir eval exec exit gc getattr globals
hasattr help id importlib license locals methodcaller os quit setattr super type vars""".split())
NO_WORDS = set("""type typing typing_extensions enum Enum IntEnum StrEnum Flag IntFlag Generic Protocol ABC ABCMeta namedtuple
NamedTuple TypedDict TYPE_CHECKING abstractmethod""".split())
NO_PARTS = ("dataclass", "overload", "contextmanager")
NO_BEGINNINGS = ("_wall", "_pe_", "_dcw_", "_enum_", "_cm_", "_twin_re_", "_lay_", "_law_", "_stub_", "_sre", "_WallAttr")
NO_PRIVATE = {"_cold", "_tuplegetter", "_outside", "_record", "_written_out", "_member_names"}
NO_FILES = {"test", "tests", "testing", "site", "conftest", "sitecustomize", "usercustomize"}
FRAMES = re.compile(r"^(f_back|f_builtins|f_code|f_globals|f_lasti|f_lineno|f_locals|f_trace\w*|tb_\w+|co_\w+|gi_\w+|cr_\w+)$")
CAUGHT = {"KeyError", "ZeroDivisionError", "StopIteration", "ValueError", "LookupError", "IndexError"}
ON_THE_SPOT = {"zip", "enumerate", "reversed", "range"}
STATEMENTS = (
    ast.FunctionDef, ast.ClassDef, ast.Return, ast.Delete, ast.Assign, ast.AugAssign, ast.AnnAssign, ast.For, ast.While,
    ast.If, ast.With, ast.Match, ast.Raise, ast.Try, ast.Assert, ast.ImportFrom, ast.Import, ast.Nonlocal, ast.Expr,
    ast.Pass, ast.Break, ast.Continue,
)


class Finder:
    """Gathers the faults of one file."""

    def __init__(self, path, text):
        self.path, self.text = path, text
        self.found = []

    def say(self, rule, node, what):
        line = node if isinstance(node, int) else getattr(node, "lineno", 0)
        self.found.append((rule, self.path, line, what))

    def run(self):
        self.characters()
        try:
            self.tree = ast.parse(self.text)
        except SyntaxError as error:
            self.say("L6", error.lineno or 0, "no Python")
            return self.found
        for parent in ast.walk(self.tree):
            for child in ast.iter_child_nodes(parent):
                child.parent = parent
        self.docstrings = [node for node in map(docstring_of, ast.walk(self.tree)) if node is not None]
        self.imports()
        self.module_level()
        for node in ast.walk(self.tree):
            self.node(node)
        self.bindings()
        return self.found

    def characters(self):
        for number, line in enumerate(self.text.split("\n"), 1):
            if len(line) > 120:
                self.say("L10", number, "a line of more than 120 characters")
            if any(not " " <= sign <= "~" for sign in line):
                self.say("L14", number, "a character that is none from the space to ~")
            if re.search(r"_wall\b|_WallAttr", line):
                self.say("L12", number, "a barred word")
            code = line.split("#")[0]
            if any(part in code for part in NO_PARTS):
                self.say("L17", number, "a barred word")
        if len(self.text.splitlines()) > 399:
            self.say("L10", 1, "a file of more than 399 lines")

    def imports(self):
        is_top = True
        for statement in self.tree.body:
            if isinstance(statement, (ast.Import, ast.ImportFrom)):
                if not is_top:
                    self.say("L2", statement, "an import that does not stand at the top")
            elif statement not in [node.parent for node in self.docstrings]:
                is_top = False
        for node in ast.walk(self.tree):
            if isinstance(node, (ast.Import, ast.ImportFrom)):
                self.one_import(node)

    def one_import(self, node):
        if node.parent is not self.tree:
            self.say("L2", node, "an import within something")
        if isinstance(node, ast.Import):
            if [(name.name, name.asname) for name in node.names] != [("sys", None)] or self.path != "__main__.py":
                self.say("L16", node, "an import of another form than from .. import ..")
            return
        module = node.module or ""
        if node.level or any(name.name == "*" for name in node.names):
            self.say("L2", node, "a leading dot or a star")
        elif module == "__future__":
            if [name.name for name in node.names] != ["annotations"]:
                self.say("L2", node, "an import that is not allowed")
        elif module in LIBRARY:
            for name in node.names:
                if name.name not in LIBRARY[module] or name.asname:
                    self.say("L2", node, f"{name.name} of the library")
        elif not module.startswith(PACKAGE + ".") or module == PACKAGE + ".__main__":
            self.say("L2", node, f"an import from {module}")

    def module_level(self):
        for statement in self.tree.body:
            if isinstance(statement, ast.If) and self.path == "__main__.py":
                continue
            is_docstring = isinstance(statement, ast.Expr) and statement.value in self.docstrings
            is_assignment = isinstance(statement, ast.Assign) and len(statement.targets) == 1
            if is_assignment and isinstance(statement.targets[0], ast.Name):
                self.plain(statement.value)
            elif not is_docstring and not isinstance(
                statement, (ast.Import, ast.ImportFrom, ast.FunctionDef, ast.ClassDef)
            ):
                self.say("L3", statement, "a statement that does not stand at module level")

    def plain(self, value):
        for node in ast.walk(value):
            if isinstance(node, (ast.Call, ast.Set, ast.ListComp, ast.DictComp, ast.SetComp, ast.GeneratorExp, ast.Lambda)):
                self.say("L3", value, "no plain value")
        for node in ast.walk(value):
            if node is not value and isinstance(node, (ast.List, ast.Dict)):
                self.say("L15", value, "a list or dict within a value at module level")

    def node(self, node):
        if isinstance(node, ast.stmt) and not isinstance(node, STATEMENTS):
            self.say("L6", node, f"a statement {node.__class__.__name__}")
        check = getattr(self, "on_" + node.__class__.__name__.lower(), None)
        if check is not None:
            check(node)
        for name in names_made(node):
            self.made_name(node, name)

    def made_name(self, node, name):
        is_method = isinstance(node, ast.FunctionDef) and isinstance(node.parent, ast.ClassDef)
        is_attribute = isinstance(node, ast.Attribute)
        if name in NEVER or FRAMES.match(name):
            self.say("L17", node, f"the name {name}")
        if name in NO_NAMES and not is_attribute:
            self.say("L17", node, f"the name {name}")
        if not re.match(r"^_?[A-Za-z][A-Za-z0-9_]*$", name) and name != "_" and name not in DOUBLE:
            self.say("L12", node, f"the name {name}")
        if name.startswith(NO_BEGINNINGS) and not (is_attribute or is_method):
            self.say("L12", node, f"the name {name}")
        if name.rstrip("0123456789_") in NO_PRIVATE:
            self.say("L12", node, f"the name {name}")
        if isinstance(node, ast.ClassDef) and name.startswith("_"):
            self.say("L12", node, f"the class {name}")
        if name in BUILTINS | {"chr", "print"} and not is_attribute:
            self.say("L8", node, f"another meaning of {name}")
        if name in ALL_BUILTINS and not is_attribute and not is_method:
            self.say("L15", node, f"the name of the builtin {name}")
        if is_attribute and name in BARRED_ATTRIBUTES:
            self.say("L26", node, f"the attribute {name}")

    def on_functiondef(self, node):
        if node.end_lineno - node.lineno + 1 > 40:
            self.say("L10", node, "a function of more than 40 lines")
        for decorator in node.decorator_list:
            name = decorator.id if isinstance(decorator, ast.Name) else getattr(decorator, "attr", "")
            if name not in ("property", "setter", "staticmethod", "classmethod") or not isinstance(node.parent, ast.ClassDef):
                self.say("L4", decorator, "a decorator")
        if re.match(r"^__\w+__$", node.name) and not isinstance(node.parent, ast.ClassDef):
            self.say("L28", node, "a double-underscore function outside of a class")
        for default in node.args.defaults + [value for value in node.args.kw_defaults if value is not None]:
            if any(isinstance(part, (ast.Call, ast.List, ast.Dict, ast.Set, ast.Lambda)) for part in ast.walk(default)):
                self.say("L4", default, "a default value that is not plain")

    def on_classdef(self, node):
        if node.parent is not self.tree:
            self.say("L15", node, "a class that is not defined at module level")
        if node.decorator_list or node.keywords:
            self.say("L5", node, "a decorator or a keyword of a class")
        seen = [part.name for part in node.body if isinstance(part, ast.FunctionDef) and not part.decorator_list]
        if len(seen) != len(set(seen)):
            self.say("L18", node, "a method defined twice")

    def on_constant(self, node):
        if isinstance(node.value, (float, complex)):
            self.say("L7", node, "a float")
        if isinstance(node.value, int) and not isinstance(node.value, bool) and abs(node.value) >= 10 ** 900:
            self.say("L27", node, "a number of more than 900 digits")
        if isinstance(node.value, str) and node not in self.docstrings:
            self.text_constant(node, node.value)

    def text_constant(self, node, text):
        if "%" in text:
            self.say("L27", node, "the character % in a string")
        if text.endswith(("._", ".__")) or (re.match(r"^__.*__$", text) and text != "__main__"):
            self.say("L27", node, "a string with underscores")
        if FRAMES.match(text):
            self.say("L27", node, "the name of a part of a frame")
        for word in re.findall(r"\w+", text):
            if word in NO_WORDS - {"type"}:
                self.say("L17", node, f"the word {word}")

    def on_binop(self, node):
        if isinstance(node.op, (ast.Div, ast.MatMult)):
            self.say("L7", node, "an operator that is not allowed")
        if isinstance(node.op, ast.Pow) and isinstance(node.left, ast.Constant) and node.left.value == 2:
            if not (isinstance(node.right, ast.Constant) and 0 <= node.right.value <= 64):
                self.say("L27", node, "2 ** n")

    def on_augassign(self, node):
        if isinstance(node.op, (ast.Div, ast.MatMult)):
            self.say("L7", node, "an operator that is not allowed")

    def on_compare(self, node):
        for op, right in zip(node.ops, node.comparators):
            if isinstance(op, (ast.Is, ast.IsNot)):
                sides = [part.value for part in (node.left, right) if isinstance(part, ast.Constant)]
                if not any(value is None or value is True or value is False for value in sides) and not in_method_of_self(node):
                    self.say("L20", node, "is without None, True or False")

    def on_name(self, node):
        name = node.id
        if not isinstance(node.ctx, ast.Load):
            return
        if name in ALL_BUILTINS and name not in BUILTINS and not (name == "print" and self.path == "__main__.py"):
            self.say("L8", node, f"the builtin {name}")
        if name in NEVER or name in NO_NAMES - {"super"} or name in NO_WORDS:
            self.say("L17", node, f"the name {name}")
        if name == "_":
            self.say("L12", node, "_ is read")
        if name in LIBRARY_NAMES and not (isinstance(node.parent, ast.Call) and node.parent.func is node):
            self.say("L2", node, f"{name} is not called")
        self.builtin_as_value(node)

    def builtin_as_value(self, node):
        name, parent = node.id, node.parent
        if name not in BUILTINS or name in ("NotImplemented", "property", "staticmethod", "classmethod") or name[0].isupper():
            return
        if isinstance(parent, ast.Call) and parent.func is node:
            return
        if isinstance(parent, ast.keyword) and parent.arg == "key":
            return
        up = parent.parent if isinstance(parent, ast.Tuple) else parent
        if isinstance(up, ast.Call) and getattr(up.func, "id", "") in ("isinstance", "map"):
            return
        if not isinstance(up, (ast.arg, ast.AnnAssign, ast.Subscript, ast.BinOp)):
            self.say("L22", node, f"{name} is not called")

    def on_call(self, node):
        name = getattr(node.func, "id", "")
        if isinstance(node.func, ast.Constant):
            self.say("L7", node, "a literal is called")
        if name in LIBRARY_NAMES:
            if node.keywords or any(isinstance(part, ast.Starred) for part in node.args):
                self.say("L2", node, f"{name} with other arguments than by position")
        allowed = {
            "sorted": ("key", "reverse"), "min": ("key", "default"), "max": ("key", "default"), "sum": ("start",),
            "enumerate": ("start",), "zip": ("strict",),
        }
        if name in BUILTINS and any(part.arg not in allowed.get(name, ()) for part in node.keywords):
            self.say("L22", node, f"a keyword of {name}")
        if name in ON_THE_SPOT and isinstance(node.parent, (ast.Return, ast.Attribute)):
            self.say("L23", node, f"{name} is not iterated on the spot")

    def on_generatorexp(self, node):
        call = node.parent
        homes = ("list", "tuple", "dict", "sorted", "sum", "min", "max", "any", "all")
        is_join = isinstance(call, ast.Call) and getattr(call.func, "attr", "") == "join"
        if not is_join and not (isinstance(call, ast.Call) and getattr(call.func, "id", "") in homes):
            self.say("L7", node, "a generator expression")

    def on_set(self, node):
        self.check_set(node)

    def on_setcomp(self, node):
        self.check_set(node)

    def check_set(self, node):
        up = node.parent
        is_tested = isinstance(up, ast.Compare)
        is_taken = isinstance(up, ast.Call) and getattr(up.func, "id", "") in ("sorted", "len")
        is_stored = isinstance(up, ast.Assign) and up.value is node and isinstance(up.targets[0], ast.Name)
        if not (is_tested or is_taken or is_stored or isinstance(up, ast.BinOp)):
            self.say("L24", node, "a set")

    def on_raise(self, node):
        error = node.exc
        if error is None:
            return
        if not (isinstance(error, ast.Call) and isinstance(error.func, ast.Name) and error.func.id[:1].isupper()):
            self.say("L19", node, "an error that is not created on the spot")

    def on_excepthandler(self, node):
        told = node.type.elts if isinstance(node.type, ast.Tuple) else [node.type]
        for error in told:
            name = getattr(error, "id", None)
            if not told or name is None or (name in ALL_BUILTINS and name not in CAUGHT):
                self.say("L19", node, "what is caught")

    def on_attribute(self, node):
        if re.match(r"^__", node.attr) and node.attr not in DOUBLE:
            self.say("L8", node, f"the attribute {node.attr}")
        if node.attr in NEVER or FRAMES.match(node.attr) or node.attr in ("format", "format_map"):
            self.say("L17", node, f"the attribute {node.attr}")

    def on_global(self, node):
        self.say("L6", node, "global")

    def bindings(self):
        """L15: each name once at module level, and no local name of a class or an import."""
        bound, barred = [], set()
        for statement in self.tree.body:
            if isinstance(statement, (ast.Import, ast.ImportFrom)):
                names = [name.asname or name.name for name in statement.names if name.name != "annotations"]
                barred.update(names)
            elif isinstance(statement, (ast.FunctionDef, ast.ClassDef)):
                names = [statement.name]
                if isinstance(statement, ast.ClassDef):
                    barred.add(statement.name)
            elif isinstance(statement, ast.Assign):
                names = [target.id for target in statement.targets if isinstance(target, ast.Name)]
            else:
                names = []
            for name in names:
                if name in bound:
                    self.say("L15", statement, f"{name} is bound twice")
                bound.append(name)
        for node in ast.walk(self.tree):
            if node in self.tree.body or isinstance(node, (ast.Attribute, ast.alias)):
                continue
            if isinstance(node, ast.FunctionDef) and isinstance(node.parent, ast.ClassDef):
                continue
            if isinstance(getattr(node, "parent", None), ast.Assign) and node.parent in self.tree.body:
                continue
            for name in names_made(node):
                if name in barred:
                    self.say("L15", node, f"{name} is a class or an import of this file")


def docstring_of(node):
    if isinstance(node, (ast.Module, ast.ClassDef, ast.FunctionDef)) and node.body:
        first = node.body[0]
        if isinstance(first, ast.Expr) and isinstance(first.value, ast.Constant) and isinstance(first.value.value, str):
            return first.value
    return None


def in_method_of_self(node):
    """Whether one side of a comparison is self, and this the first parameter of the method around it."""
    if not any(isinstance(part, ast.Name) and part.id == "self" for part in [node.left] + node.comparators):
        return False
    while hasattr(node, "parent"):
        node = node.parent
        if isinstance(node, ast.FunctionDef):
            return isinstance(node.parent, ast.ClassDef) and [argument.arg for argument in node.args.args][:1] == ["self"]
    return False


def names_made(node):
    """The names that a node gives a meaning to."""
    if isinstance(node, (ast.FunctionDef, ast.ClassDef)):
        return [node.name]
    if isinstance(node, ast.arg):
        return [node.arg]
    if isinstance(node, ast.Name) and not isinstance(node.ctx, ast.Load):
        return [node.id]
    if isinstance(node, ast.Attribute) and not isinstance(node.ctx, ast.Load):
        return [node.attr]
    if isinstance(node, ast.alias):
        return [node.asname] if node.asname else []
    if isinstance(node, ast.ExceptHandler) and node.name:
        return [node.name]
    if isinstance(node, (ast.MatchAs, ast.MatchStar)) and node.name:
        return [node.name]
    return []


def faults(path, text):
    return Finder(path, text).run()


def defined_in(tree):
    """The functions, classes and names of a file."""
    names = []
    for statement in tree.body:
        if isinstance(statement, (ast.FunctionDef, ast.ClassDef)):
            names.append(statement.name)
        elif isinstance(statement, ast.Assign):
            names += [target.id for target in statement.targets if isinstance(target, ast.Name)]
    return names


def package_faults(files):
    found = []
    for path, text in files.items():
        found += faults(path, text) + path_faults(path)
    if found and any(rule == "L6" and what == "no Python" for rule, _, _, what in found):
        return found
    trees = {path: ast.parse(text) for path, text in files.items()}
    if len(files) > 100 or "__init__.py" not in files:
        found.append(("L14", "", 0, "too many files, or no __init__.py"))
    return found + import_faults(trees) + circle_faults(trees) + method_faults(trees)


def path_faults(path):
    """L14: the names of files."""
    name = path.rsplit("/", 1)[-1]
    stem = name[:-3]
    if not re.match(r"^[a-z0-9_]+\.py$", name):
        return [("L1", path, 0, "no plain name of a .py file")]
    is_barred = stem in NO_FILES or stem.startswith(("law_", "test_")) or stem in NO_WORDS or stem in LIBRARY
    if is_barred or stem in ALL_BUILTINS or keyword.iskeyword(stem):
        return [("L14", path, 0, "a barred name of a file")]
    if path.count("/") or PACKAGE in sys.stdlib_module_names:
        return [("L14", path, 0, "a folder, or the name of a module of the library")]
    return []


def own_imports(trees):
    """(path, node, the path of the imported file) of all imports from the package."""
    for path, tree in trees.items():
        for node in tree.body:
            if isinstance(node, ast.ImportFrom) and (node.module or "").startswith(PACKAGE + "."):
                yield path, node, node.module[len(PACKAGE) + 1:].replace(".", "/") + ".py"


def import_faults(trees):
    """L16: the very file that defines the name."""
    found = []
    for path, node, target in own_imports(trees):
        names = defined_in(trees[target]) if target in trees else []
        for name in node.names:
            if name.name not in names:
                found.append(("L16", path, node.lineno, f"{name.name} is not defined in {target}"))
    return found


def circle_faults(trees):
    """L16: no two files import from each other, directly or through others."""
    reached = {path: {target for at, _, target in own_imports(trees) if at == path} for path in trees}
    for _ in trees:
        for path in reached:
            for target in list(reached[path]):
                reached[path] = reached[path] | reached.get(target, set())
    return [("L16", path, 1, "it imports itself through others") for path in reached if path in reached[path]]


def method_faults(trees):
    """L25: methods of builtin values, or own ones."""
    own = set()
    for tree in trees.values():
        for node in ast.walk(tree):
            if isinstance(node, ast.ClassDef):
                own.update(part.name for part in node.body if isinstance(part, ast.FunctionDef))
            if isinstance(node, ast.Attribute) and isinstance(node.ctx, ast.Store):
                own.add(node.attr)
    found = []
    for path, tree in trees.items():
        for node in ast.walk(tree):
            if isinstance(node, ast.Call) and isinstance(node.func, ast.Attribute):
                if node.func.attr not in METHODS | own:
                    found.append(("L25", path, node.lineno, f"the method {node.func.attr}"))
                elif node.func.attr in METHODS - own and node.keywords and node.func.attr != "sort":
                    found.append(("L25", path, node.lineno, f"keywords of the method {node.func.attr}"))
    return found
