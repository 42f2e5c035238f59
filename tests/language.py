"""The rules of the language of the package that a syntax tree shows, each as a function that yields faults.

A fault is a pair of a rule and a line. The functions are narrower than the rules where that is simpler.
"""

import ast
import builtins
import re

BUILTINS = set("""len range enumerate zip min max sum abs sorted reversed int str bool bytes list tuple dict set
frozenset isinstance ord repr any all divmod Exception ValueError TypeError KeyError IndexError LookupError
ZeroDivisionError ArithmeticError OverflowError RuntimeError NotImplementedError AttributeError StopIteration
NotImplemented iter next map super property staticmethod classmethod True False None""".split())

METHODS = set("""append clear copy count endswith extend find get index insert isalnum isalpha isdigit islower
isspace isupper items join keys ljust lower lstrip partition pop remove replace reverse rfind rjust rpartition
rsplit rstrip setdefault split splitlines startswith strip update upper values zfill bit_length title capitalize
swapcase casefold center expandtabs removeprefix removesuffix rindex isascii isdecimal isnumeric istitle
isidentifier isprintable translate""".split())

NO_NAMES = set("""register mro elements open input law version_info with_traceback add_note attrgetter breakpoint
builtins compile copyright credits delattr dir eval exec exit gc getattr globals hasattr help id importlib license
locals methodcaller os quit setattr type vars sys""".split())

NO_WORDS = set("""type typing typing_extensions enum Enum IntEnum StrEnum Flag IntFlag Generic Protocol ABC ABCMeta
namedtuple NamedTuple TypedDict TYPE_CHECKING abstractmethod""".split())

NO_ATTRIBUTES = set("""items keys values pop update append clear extend insert remove reverse setdefault sort args
encode decode hex fromhex format format_map mro""".split())

LIBRARY = {
    "heapq": {"heappush", "heappop", "heapify", "heapreplace", "heappushpop"},
    "math": {"gcd", "lcm", "isqrt", "comb", "perm", "factorial"},
}

DUNDERS = {
    "__init__": None, "__enter__": None, "__exit__": None, "__call__": None, "__repr__": ["self"],
    "__str__": ["self"], "__len__": ["self"], "__iter__": ["self"], "__bool__": ["self"], "__neg__": ["self"],
    "__eq__": ["self", "other"], "__add__": ["self", "other"], "__mul__": ["self", "other"],
    "__contains__": ["self", "x"], "__getitem__": ["self", "at"],
}

ON_THE_SPOT = ("range", "zip", "enumerate", "reversed", "map")
TAKES_LISTS = ("any", "all", "min", "max", "sum", "sorted")
FUNCTIONS = (ast.FunctionDef, ast.Lambda)
NOT_ALLOWED = (ast.Global, ast.AsyncFunctionDef, ast.AsyncFor, ast.AsyncWith, ast.Await, ast.Import, ast.AnnAssign)


class File:
    """A file of the package, parsed, with the parent of each node."""

    def __init__(self, name, text):
        self.name, self.text = name, text
        self.tree = ast.parse(text)
        self.nodes = list(ast.walk(self.tree))
        self.parents = {child: node for node in self.nodes for child in ast.iter_child_nodes(node)}
        self.defined = {node.name: node for node in self.tree.body if isinstance(node, (ast.FunctionDef, ast.ClassDef))}
        self.values = {node.targets[0].id: node for node in self.tree.body
                       if isinstance(node, ast.Assign) and isinstance(node.targets[0], ast.Name)}
        self.imports = {alias.name: node for node in self.nodes if isinstance(node, ast.ImportFrom)
                        for alias in node.names}

    def of(self, *kinds):
        return [node for node in self.nodes if isinstance(node, kinds)]

    def inside(self, node, kinds):
        """The nearest node of some kinds around a node, or None."""
        while node in self.parents:
            node = self.parents[node]
            if isinstance(node, kinds):
                return node
        return None

    def classes(self):
        return self.of(ast.ClassDef)

    def methods(self):
        return [node for kind in self.classes() for node in kind.body if isinstance(node, ast.FunctionDef)]


def called_name(node):
    """The bare name that a call calls, or None."""
    return node.func.id if isinstance(node, ast.Call) and isinstance(node.func, ast.Name) else None


def parameters(function):
    told = function.args
    found = told.posonlyargs + told.args + told.kwonlyargs + [told.vararg, told.kwarg]
    return [part for part in found if part is not None]


def bound_in(function):
    """All names that a function binds, its parameters included."""
    names = [part.arg for part in parameters(function)]
    names += [node.id for node in ast.walk(function) if isinstance(node, ast.Name) and isinstance(node.ctx, ast.Store)]
    names += [node.name for node in ast.walk(function) if isinstance(node, ast.ExceptHandler) and node.name]
    return names


def sizes_and_characters(files):
    for file in files:
        lines = file.text.split("\n")
        if len(lines) > 400:
            yield file, "L10", len(lines)
        for number, line in enumerate(lines, 1):
            if len(line) > 120:
                yield file, "L10", number
            if not all(" " <= letter <= "~" for letter in line):
                yield file, "L14", number
            if re.search(r"_wall|_WallAttr|dataclass|overload|contextmanager|\(type\)|Meta\b|metaclass=", line):
                yield file, "L12/L17", number
            if re.search(r"\\[^nt\\'\"]", line) or line.endswith("\\"):
                yield file, "L27", number
        for node in file.of(ast.FunctionDef):
            if node.end_lineno - node.lineno + 1 > 40:
                yield file, "L10", node.lineno


def imports(files):
    known = {file.name: file for file in files}
    for file in files:
        top = True
        for node in file.tree.body:
            top = top and isinstance(node, (ast.Expr, ast.ImportFrom))
            if isinstance(node, ast.ImportFrom) and not top:
                yield file, "L2", node.lineno
        for node in file.of(ast.ImportFrom):
            place = (node.module or "").split(".")
            names = [alias.name for alias in node.names]
            if file.parents[node] is not file.tree or node.level or any(alias.asname for alias in node.names):
                yield file, "L2", node.lineno
            elif place[0] == "freestrung" and len(place) == 2 and place[1] in known:
                own = known[place[1]]
                if not all(name in own.defined or name in own.values for name in names):
                    yield file, "L16", node.lineno
            elif not set(names) <= LIBRARY.get(node.module, set()):
                yield file, "L2", node.lineno
        used = {node.id for node in file.of(ast.Name)}
        for name, node in file.imports.items():
            if name not in used:
                yield file, "unused", node.lineno


def rings(files):
    links = {file.name: [(node.module or "").split(".")[-1] for node in file.of(ast.ImportFrom)] for file in files}
    for file in files:
        found, todo = set(), list(links[file.name])
        while todo:
            name = todo.pop()
            if name in links and name not in found:
                found.add(name)
                todo += links[name]
        if file.name in found:
            yield file, "L16", 1


def module_level(files):
    for file in files:
        names = list(file.imports)
        for node in file.tree.body:
            if isinstance(node, (ast.FunctionDef, ast.ClassDef)):
                names.append(node.name)
            elif isinstance(node, ast.Assign) and len(node.targets) == 1 and isinstance(node.targets[0], ast.Name):
                names.append(node.targets[0].id)
                try:
                    value = ast.literal_eval(node.value)
                except ValueError:
                    yield file, "L3", node.lineno
                    continue
                if isinstance(value, (list, dict)) and re.search(r"[\[{]", ast.unparse(node.value)[1:]):
                    yield file, "L15", node.lineno
            elif not isinstance(node, ast.ImportFrom) and not isinstance(getattr(node, "value", None), ast.Constant):
                yield file, "L3", node.lineno
        if len(set(names)) != len(names):
            yield file, "L15", 1


def statements(files):
    for file in files:
        for node in file.of(*NOT_ALLOWED):
            yield file, "L6", node.lineno
        for node in file.of(ast.FunctionDef):
            owner = file.parents[node]
            for decorator in node.decorator_list:
                fine = isinstance(owner, ast.ClassDef) and ast.unparse(decorator) in (
                    "property", "staticmethod", "classmethod", f"{node.name}.setter")
                if not fine:
                    yield file, "L4", node.lineno
            if node.name.startswith("__"):
                wanted = DUNDERS.get(node.name, "none")
                if wanted == "none" or wanted is not None and [part.arg for part in parameters(node)] != wanted:
                    yield file, "L5", node.lineno
        for node in file.of(ast.Try):
            for handler in node.handlers:
                if handler.type is None:
                    yield file, "L19", handler.lineno
        for node in file.of(ast.Raise):
            if node.exc is not None and called_name(node.exc) is None:
                yield file, "L19", node.lineno


def values(files):
    for file in files:
        for node in file.of(ast.Constant):
            if isinstance(node.value, (float, complex)):
                yield file, "L7", node.lineno
            if isinstance(node.value, str) and "%" in node.value:
                yield file, "L27", node.lineno
            if isinstance(node.value, str) and re.fullmatch(r"__.*__", node.value):
                yield file, "L27", node.lineno
        for node in file.of(ast.BinOp, ast.AugAssign):
            if isinstance(node.op, (ast.Div, ast.MatMult, ast.Pow)):
                yield file, "L7/L27", node.lineno
        for node in file.of(ast.Compare):
            sides = [node.left] + node.comparators
            if any(isinstance(op, (ast.Is, ast.IsNot)) for op in node.ops):
                if not any(isinstance(side, ast.Constant) and side.value in (None, True, False) for side in sides):
                    yield file, "L20", node.lineno
        for node in file.of(ast.GeneratorExp):
            call = file.parents[node]
            joins = isinstance(call, ast.Call) and isinstance(call.func, ast.Attribute) and call.func.attr == "join"
            if called_name(call) not in ("tuple", "list", "dict") and not joins:
                yield file, "L7", node.lineno


def words(files):
    for file in files:
        docs = [ast.get_docstring(node, clean=False) for node in file.nodes
                if isinstance(node, (ast.Module, ast.ClassDef, ast.FunctionDef))]
        told = [node.value for node in file.of(ast.Constant) if isinstance(node.value, str) and node.value not in docs]
        names = [node.id for node in file.of(ast.Name)] + [node.attr for node in file.of(ast.Attribute)]
        found = set(re.findall(r"\w+", " ".join(told + names)))
        if found & NO_WORDS:
            yield file, "L17", 1


def names(files):
    for file in files:
        kept = set(file.imports) | {node.name for node in file.classes()}
        local = [(name, node) for node in file.of(*FUNCTIONS) for name in bound_in(node)]
        for name, node in local + [(name, node) for name, node in (file.defined | file.values).items()]:
            if name in dir(builtins) or name in NO_NAMES:
                yield file, "L15/L17", node.lineno
            if not re.fullmatch(r"_?[A-Za-z][A-Za-z0-9_]*|_", name):
                yield file, "L12", node.lineno
        for name, node in local:
            if name in kept:
                yield file, "L15", node.lineno
        for node in file.of(ast.Name):
            if node.id == "_" and isinstance(node.ctx, ast.Load):
                yield file, "L12", node.lineno
            if isinstance(node.ctx, ast.Load) and node.id not in file.defined | file.values | file.imports:
                function = file.inside(node, FUNCTIONS)
                bound = []
                while function is not None:
                    bound += bound_in(function)
                    function = file.inside(function, FUNCTIONS)
                if node.id not in bound and node.id not in BUILTINS:
                    yield file, "L8", node.lineno
        for node in file.of(ast.Name, ast.Attribute):
            if isinstance(file.parents[node], ast.Call) and file.parents[node].func is node:
                continue
            if isinstance(node, ast.Name) and node.id in ("len", "sorted", "range", "zip", "print"):
                yield file, "L22", node.lineno


def calls(files):
    own = {node.name for file in files for node in file.methods()}
    generators = {node.name for file in files for node in file.of(ast.FunctionDef)
                  if any(isinstance(part, (ast.Yield, ast.YieldFrom)) for part in ast.walk(node))}
    for file in files:
        for node in file.of(ast.Call):
            name, parent = called_name(node), file.parents[node]
            if isinstance(node.func, ast.Attribute):
                name = node.func.attr
                if name not in METHODS | own:
                    yield file, "L25", node.lineno
            elif name is None:
                yield file, "L22", node.lineno
            if name in TAKES_LISTS and any(isinstance(part, ast.Call) and called_name(part) in generators
                                           for part in node.args):
                yield file, "L7", node.lineno
            if name in dir(builtins) and not {word.arg for word in node.keywords} <= {"key", "reverse", "default"}:
                yield file, "L22", node.lineno
            if name in ON_THE_SPOT or name in generators or name in ("items", "keys", "values"):
                iterated = isinstance(parent, (ast.For, ast.comprehension)) and parent.iter is node
                taken = called_name(parent) in (
                    "list", "tuple", "dict", "sorted", "sum", "any", "all", "enumerate", "zip")
                if not iterated and not taken and not isinstance(parent, ast.YieldFrom):
                    yield file, "L23", node.lineno
            if name in ("set", "frozenset"):
                told = isinstance(parent, ast.Compare) or called_name(parent) in ("len", "sorted")
                if not told and not isinstance(parent, ast.Assign):
                    yield file, "L24", node.lineno


def generator_names(files):
    functions = [(file, node) for file in files for node in file.of(ast.FunctionDef)]
    for file, node in functions:
        if any(isinstance(part, (ast.Yield, ast.YieldFrom)) for part in ast.walk(node)):
            if len([1 for _, other in functions if other.name == node.name]) > 1 or node.name in METHODS:
                yield file, "L23", node.lineno
            if node.decorator_list or node.name.startswith("__"):
                yield file, "L23", node.lineno


CHANGING = ("append", "clear", "extend", "insert", "pop", "remove", "reverse", "setdefault", "update", "add", "sort")
COPYING = ("list", "tuple", "sorted", "range", "len")


def walked(node):
    """The names and attributes that a loop goes over when it goes over this, without those that it copies first."""
    if called_name(node) in COPYING:
        return set()
    found = {ast.unparse(node)} if isinstance(node, (ast.Name, ast.Attribute)) else set()
    return found.union(*[walked(part) for part in ast.iter_child_nodes(node)])


def changed_in(rows):
    """What some rows change: pairs of its name and the node that does."""
    for node in [part for row in rows for part in ast.walk(row)]:
        if isinstance(node, ast.Call) and isinstance(node.func, ast.Attribute) and node.func.attr in CHANGING:
            yield ast.unparse(node.func.value), node
        if isinstance(node, ast.AugAssign):
            yield ast.unparse(node.target), node
        if isinstance(node, ast.Subscript) and not isinstance(node.ctx, ast.Load):
            yield ast.unparse(node.value), node


def namesakes(function, told):
    """All names and attributes that may be one thing with some of these, by an assignment of the function."""
    links = [(ast.unparse(target), walked(node.value)) for node in ast.walk(function) if isinstance(node, ast.Assign)
             and isinstance(node.value, (ast.Name, ast.Attribute, ast.IfExp, ast.BoolOp)) for target in node.targets]
    found = set(told)
    for _ in links:
        for target, sources in links:
            if sources & found or target in found:
                found |= sources | {target}
    return found


def changed_loops(files):
    """What a loop goes over is not changed in it, by whatever name."""
    for file in files:
        for loop in file.of(ast.For):
            function = file.inside(loop, FUNCTIONS)
            over = namesakes(function, walked(loop.iter))
            for name, node in changed_in(loop.body):
                if name in over:
                    yield file, "L23", node.lineno


def classes(files):
    methods, static, properties = {}, set(), set()
    attributes = {}
    for file in files:
        for kind in file.classes():
            names_here = [node.name for node in kind.body if isinstance(node, ast.FunctionDef)]
            if len(set(names_here)) != len(names_here):
                yield file, "L18", kind.lineno
            for node in kind.body:
                if isinstance(node, ast.FunctionDef):
                    told = [ast.unparse(part) for part in node.decorator_list]
                    if "property" in told:
                        properties.add(node.name)
                    elif told:
                        static.add(node.name)
                    elif not node.name.startswith("__"):
                        methods[node.name] = (file, node.lineno)
                elif not isinstance(node, ast.Expr):
                    yield file, "L5", node.lineno
            stored = [node.attr for node in ast.walk(kind) if isinstance(node, ast.Attribute)
                      and isinstance(node.ctx, ast.Store)]
            for name in stored:
                attributes[name] = (file, kind.lineno)
                if name in names_here or name in NO_ATTRIBUTES:
                    yield file, "L18/L26", kind.lineno
    for name in static | properties:
        if name in methods or name in attributes or name in METHODS:
            yield (methods.get(name) or attributes.get(name) or (files[0], 1))[0], "L5", 1
    for name in static & properties:
        yield files[0], "L5", 1
    for file in files:
        for node in file.of(ast.Attribute):
            call = file.parents[node]
            if isinstance(node.ctx, ast.Load) and not (isinstance(call, ast.Call) and call.func is node):
                if node.attr not in attributes and node.attr not in properties:
                    yield file, "L18", node.lineno


def double_underscore(files):
    for file in files:
        for node in file.methods():
            last = node.body[-1]
            if node.name == "__len__" and called_name(getattr(last, "value", None)) != "len":
                yield file, "L28", node.lineno
            if node.name == "__iter__" and not (len(node.body) == 1 and re.fullmatch(
                    r"return iter\(self(\.\w+){1,2}\)", ast.unparse(last))):
                yield file, "L5", node.lineno
            if node.name == "__bool__" and not re.match(r"return (bool\(|not |isinstance\()", ast.unparse(last)):
                yield file, "L5", node.lineno
            if node.name == "__eq__" and not re.fullmatch(
                    r"return isinstanceother, \w+( and self\.(\w+) == other\.\2)+",
                    ast.unparse(last).replace("(", "").replace(")", "")):
                yield file, "L5", node.lineno


RULES = (sizes_and_characters, imports, rings, module_level, statements, values, words, names, calls, generator_names,
         changed_loops, classes, double_underscore)


def faults(texts):
    """All faults of files that are told as pairs of a name and a text: triples of a name, a rule and a line."""
    files = [File(name, text) for name, text in texts]
    return [(file.name, rule, line) for check in RULES for file, rule, line in check(files)]
