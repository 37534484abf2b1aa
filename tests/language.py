"""Checks of the rules of the language that are easily checked: L1 to L28, where a name tells one.

faults(files) takes {file name: text} of the whole package and returns (rule, file, line) of each fault.
"""

import ast
import builtins
import io
import keyword
import re
import tokenize

PACKAGE = "onlywith"
LIBRARY = {
    "heapq": {"heappush", "heappop", "heapify", "heapreplace", "heappushpop"},
    "math": {"gcd", "lcm", "isqrt", "comb", "perm", "factorial"},
    "itertools": {"product", "combinations", "permutations", "chain", "accumulate", "pairwise", "islice", "zip_longest"},
    "collections": {"defaultdict"},
}
ERRORS = {
    "Exception", "ValueError", "TypeError", "KeyError", "IndexError", "LookupError", "ZeroDivisionError",
    "ArithmeticError", "OverflowError", "RuntimeError", "NotImplementedError", "AttributeError", "StopIteration",
}
CAUGHT = {"KeyError", "ZeroDivisionError", "StopIteration", "ValueError", "LookupError", "IndexError"}
BUILTINS = ERRORS | {
    "len", "range", "enumerate", "zip", "min", "max", "sum", "abs", "sorted", "reversed", "int", "str", "bool", "list",
    "tuple", "dict", "set", "isinstance", "ord", "repr", "any", "all", "divmod", "pow", "iter", "next", "map",
    "getattr", "hasattr", "setattr", "super", "property", "staticmethod", "classmethod", "NotImplemented", "bytes",
}
METHODS = set(
    "append clear copy count endswith extend find get index insert isalnum isalpha isdigit islower isspace isupper items "
    "join keys ljust lower lstrip partition pop remove replace reverse rfind rjust rpartition rsplit rstrip setdefault "
    "split splitlines startswith strip update upper values zfill bit_length title capitalize swapcase casefold center "
    "expandtabs removeprefix removesuffix rindex isascii isdecimal isnumeric istitle isidentifier isprintable translate "
    "encode decode sort format add discard".split()
)
NO_ATTRIBUTES = set(
    "items keys values pop update append clear extend insert remove reverse setdefault sort args encode decode hex fromhex "
    "format as_integer_ratio bit_count conjugate from_bytes is_integer to_bytes".split()
)
NOWHERE = {"register", "mro", "elements", "open", "input", "law", "version_info", "with_traceback", "add_note"}
NO_NAMES = NOWHERE | set(
    "attrgetter breakpoint builtins compile copyright credits delattr dir eval exec exit gc globals help id importlib "
    "license locals methodcaller os quit type vars sys".split()
)
NO_WORDS = re.compile(
    r"\b(type|typing|typing_extensions|enum|Enum|IntEnum|StrEnum|Flag|IntFlag|Generic|Protocol|ABC|ABCMeta|namedtuple|"
    r"NamedTuple|TypedDict|TYPE_CHECKING|abstractmethod)\b|dataclass|overload|contextmanager"
)
DUNDERS = set(
    "__init__ __eq__ __repr__ __str__ __len__ __enter__ __exit__ __call__ __iter__ __lt__ __le__ __gt__ __ge__ __ne__ "
    "__contains__ __getitem__ __setitem__ __bool__".split()
)
AT_ONCE = {"range", "enumerate", "zip", "reversed"}
VIEWS = {"items", "keys", "values"}
TAKERS = {"list", "tuple", "dict", "sorted", "sum", "any", "all", "enumerate", "zip", "min", "max"}


def doc_nodes(tree):
    """The string nodes that are docstrings."""
    nodes = []
    for node in ast.walk(tree):
        if isinstance(node, (ast.Module, ast.ClassDef, ast.FunctionDef)) and ast.get_docstring(node, False) is not None:
            nodes.append(node.body[0].value)
    return nodes


def bound_names(tree):
    """The pairs (name, node) of all names that are bound: variables, parameters, functions, classes, errors."""
    for node in ast.walk(tree):
        if isinstance(node, ast.Name) and not isinstance(node.ctx, ast.Load):
            yield node.id, node
        elif isinstance(node, ast.arg):
            yield node.arg, node
        elif isinstance(node, (ast.FunctionDef, ast.ClassDef)):
            yield node.name, node
        elif isinstance(node, ast.ExceptHandler) and node.name:
            yield node.name, node


def parents_of(tree):
    return {child: node for node in ast.walk(tree) for child in ast.iter_child_nodes(node)}


def called(node):
    """The name of a function that is called by its bare name, or of a method; else None."""
    if not isinstance(node, ast.Call):
        return None
    return node.func.id if isinstance(node.func, ast.Name) else getattr(node.func, "attr", None)


class File:
    """One file of the package, and the faults that are found in it."""

    def __init__(self, name, text, package):
        self.name, self.text, self.package = name, text, package
        self.tree = ast.parse(text)
        self.parents = parents_of(self.tree)
        self.docs = doc_nodes(self.tree)
        self.found = []

    def fault(self, rule, node):
        self.found.append((rule, self.name, node if isinstance(node, int) else getattr(node, "lineno", 1)))

    def methods(self):
        for node in ast.walk(self.tree):
            if isinstance(node, ast.ClassDef):
                for item in node.body:
                    if isinstance(item, ast.FunctionDef):
                        yield item

    def check_lines(self):
        lines = self.text.split("\n")
        if len(lines) > 400 or not self.text.endswith("\n"):
            self.fault("L10", len(lines))
        for number, line in enumerate(lines, 1):
            if len(line) > 120:
                self.fault("L10", number)
            if not all(" " <= sign <= "~" for sign in line):
                self.fault("L14", number)
        for node in ast.walk(self.tree):
            if isinstance(node, ast.FunctionDef) and node.end_lineno - node.lineno >= 40:
                self.fault("L10", node)

    def check_words(self):
        docs = {(node.lineno, node.col_offset) for node in self.docs}
        for token in tokenize.generate_tokens(io.StringIO(self.text).readline):
            text = token.string
            if "_wall" in text.lower() or "_WallAttr" in text:
                self.fault("L12", token.start[0])
            if token.type == tokenize.COMMENT or token.start in docs:
                continue
            if NO_WORDS.search(text):
                self.fault("L17", token.start[0])
            if token.type == tokenize.NUMBER and not re.fullmatch(r"\d{1,900}", text):
                self.fault("L7", token.start[0])
            if token.type == tokenize.STRING and re.search(r"\\[^nt\\'\"]", text):
                self.fault("L27", token.start[0])

    def check_strings(self):
        for node in ast.walk(self.tree):
            if isinstance(node, ast.Constant) and isinstance(node.value, str):
                text = node.value
                if "%" in text or text.endswith(("._", ".__")) or re.fullmatch(r"__.*__", text):
                    self.fault("L27", node)
            if isinstance(node, ast.Constant) and isinstance(node.value, (float, complex, type(...))):
                self.fault("L7", node)

    def check_imports(self):
        places = [place for place, node in enumerate(self.tree.body) if isinstance(node, (ast.Import, ast.ImportFrom))]
        first = 1 if self.docs and self.docs[0] is getattr(self.tree.body[0], "value", None) else 0
        if places != list(range(first, first + len(places))):
            self.fault("L2", 1)
        for node in ast.walk(self.tree):
            if isinstance(node, ast.Import):
                self.fault("L16", node)
            elif isinstance(node, ast.ImportFrom):
                self.check_import(node)

    def check_import(self, node):
        if self.parents[node] is not self.tree or node.level or any(item.asname or item.name == "*" for item in node.names):
            self.fault("L2", node)
        names = {item.name for item in node.names}
        if node.module in LIBRARY:
            if not names <= LIBRARY[node.module]:
                self.fault("L2", node)
        elif not (node.module or "").startswith(PACKAGE + "."):
            self.fault("L2", node)
        elif not names <= self.package.defined.get(node.module, set()):
            self.fault("L16", node)

    def check_module_level(self):
        for place, node in enumerate(self.tree.body):
            doc = place == 0 and isinstance(node, ast.Expr) and node.value in self.docs
            plain = isinstance(node, ast.Assign) and len(node.targets) == 1 and isinstance(node.targets[0], ast.Name)
            if not (doc or plain or isinstance(node, (ast.Import, ast.ImportFrom, ast.FunctionDef, ast.ClassDef))):
                self.fault("L3", node)
            if plain and any(isinstance(part, (ast.Call, ast.Set, ast.comprehension)) for part in ast.walk(node.value)):
                self.fault("L3", node)
            inner = list(ast.walk(node.value))[1:] if plain else []
            if any(isinstance(part, (ast.List, ast.Dict)) for part in inner):
                self.fault("L15", node)
        names = [name for name, node in self.top_names()]
        if len(names) != len(set(names)):
            self.fault("L15", 1)

    def top_names(self):
        for node in self.tree.body:
            if isinstance(node, ast.Assign) and isinstance(node.targets[0], ast.Name):
                yield node.targets[0].id, node
            elif isinstance(node, (ast.FunctionDef, ast.ClassDef)):
                yield node.name, node
            elif isinstance(node, ast.ImportFrom):
                yield from ((item.name, node) for item in node.names)

    def check_names(self):
        methods = list(self.methods())
        barred = {name for name, node in self.top_names() if isinstance(node, (ast.ImportFrom, ast.ClassDef))}
        for name, node in bound_names(self.tree):
            right = re.fullmatch(r"_?[A-Za-z][A-Za-z0-9_]*|_", name) or (node in methods and name in DUNDERS)
            if not right or keyword.issoftkeyword(name) and name != "_":
                self.fault("L12", node)
            if node in methods:
                continue
            # A prompt leaves a _ among the builtins.
            if name in dir(builtins) and name != "_" or name in NO_NAMES:
                self.fault("L15", node)
            if name in barred and self.parents.get(node) is not self.tree:
                self.fault("L15", node)
        for node in ast.walk(self.tree):
            if isinstance(node, ast.Attribute) and node.attr in NOWHERE or isinstance(node, ast.keyword) and node.arg in NOWHERE:
                self.fault("L17", node)
            if isinstance(node, ast.Name) and isinstance(node.ctx, ast.Load):
                if node.id == "_":
                    self.fault("L12", node)
                if hasattr(builtins, node.id) and node.id not in BUILTINS | {"_"}:
                    self.fault("L8", node)

    def check_statements(self):
        wrong = (ast.Global, ast.AsyncFunctionDef, ast.Await, ast.AsyncFor, ast.AsyncWith, ast.TypeIgnore, ast.Div,
                 ast.MatMult, ast.AnnAssign)
        for node in ast.walk(self.tree):
            if isinstance(node, wrong):
                self.fault("L6", node)
            if isinstance(node, ast.FunctionDef) and node.decorator_list and node not in list(self.methods()):
                self.fault("L4", node)
            if isinstance(node, ast.ClassDef) and (node.decorator_list or node.keywords):
                self.fault("L5", node)
            if isinstance(node, ast.Compare):
                self.check_compare(node)
            if isinstance(node, ast.ExceptHandler):
                self.check_handler(node)
            if isinstance(node, ast.Raise) and node.exc is not None and called(node.exc) not in self.package.errors:
                self.fault("L19", node)
            if isinstance(node, ast.BinOp) and isinstance(node.op, ast.Pow):
                if not (isinstance(node.right, ast.Constant) and node.right.value in range(65)):
                    self.fault("L27", node)

    def check_compare(self, node):
        for sign, right in zip(node.ops, node.comparators):
            if isinstance(sign, (ast.Is, ast.IsNot)) and not (isinstance(right, ast.Constant) and right.value in (None, True, False)):
                self.fault("L20", node)

    def check_handler(self, node):
        names = [getattr(name, "id", None) for name in getattr(node.type, "elts", [node.type])]
        for name in names:
            if name not in (self.package.errors - ERRORS) | CAUGHT:
                self.fault("L19", node)

    def check_calls(self):
        own = self.package.methods
        for node in ast.walk(self.tree):
            if isinstance(node, ast.Call) and isinstance(node.func, ast.Attribute) and node.func.attr not in METHODS | own:
                self.fault("L25", node)
            if isinstance(node, ast.Attribute) and isinstance(node.ctx, ast.Store) and node.attr in NO_ATTRIBUTES:
                self.fault("L26", node)
            if isinstance(node, ast.Attribute) and isinstance(node.ctx, ast.Load) and not self.is_class_name(node):
                if node.attr not in METHODS | own | self.package.attributes:
                    self.fault("L18", node)
            name = called(node)
            if name in AT_ONCE and isinstance(node.func, ast.Name) or name in VIEWS and isinstance(node.func, ast.Attribute):
                self.check_at_once(node)
            if isinstance(node, (ast.Set, ast.SetComp)) or name == "set":
                self.check_set(node)
            if isinstance(node, ast.Call):
                self.check_stars(node)
            if isinstance(node, ast.GeneratorExp) and called(self.parents[node]) not in TAKERS | {"join"}:
                self.fault("L7", node)
            if isinstance(node, ast.Constant) and isinstance(node.value, bytes):
                self.fault("L7", node)

    def is_class_name(self, node):
        """Whether a node is one of the two attributes of a .__class__.__name__ behind a name or an attribute (L8)."""
        upper = node if node.attr == "__name__" else self.parents[node]
        lower = getattr(upper, "value", None)
        return (getattr(upper, "attr", None), getattr(lower, "attr", None)) == ("__name__", "__class__") and node in (upper, lower) \
            and isinstance(lower.value, (ast.Name, ast.Attribute))

    def check_stars(self, node):
        for item in node.args + [word.value for word in node.keywords if word.arg is None]:
            value = item.value if isinstance(item, ast.Starred) else None
            if isinstance(value, (ast.Call, ast.Subscript, ast.GeneratorExp, ast.ListComp)):
                self.fault("L7", node)

    def check_properties(self):
        """A property has a name of its own in the whole package, no parameters, no setter, and changes nothing."""
        for node in self.methods():
            if node.decorator_list and [getattr(one, "id", None) for one in node.decorator_list] != ["property"]:
                self.fault("L5", node)
            if not node.decorator_list and node.name in self.package.properties:
                self.fault("L5", node)
            if node.decorator_list:
                stores = [part for part in ast.walk(node) if isinstance(part, (ast.Attribute, ast.Subscript)) and isinstance(part.ctx, ast.Store)]
                if stores or len(node.args.args) != 1 or node.name in METHODS:
                    self.fault("L5", node)
        for node in ast.walk(self.tree):
            if isinstance(node, ast.Attribute) and isinstance(node.ctx, (ast.Store, ast.Del)) and node.attr in self.package.properties:
                self.fault("L5", node)

    def check_classes(self):
        self.check_properties()
        for node in ast.walk(self.tree):
            if isinstance(node, ast.ClassDef):
                names = {item.name for item in node.body if isinstance(item, ast.FunctionDef)}
                for part in ast.walk(node):
                    if isinstance(part, ast.Attribute) and isinstance(part.ctx, ast.Store) and part.attr in names:
                        self.fault("L18", part)

    def check_at_once(self, node):
        above = self.parents[node]
        if isinstance(above, (ast.For, ast.comprehension)) and above.iter is node:
            return
        if isinstance(above, ast.Call) and above.args and above.args[0] is node and called(above) in TAKERS:
            return
        if isinstance(above, ast.Assign) and called(node) == "range":
            return
        self.fault("L23", node)

    def check_set(self, node):
        above = self.parents[node]
        if isinstance(above, ast.Call) and called(above) in ("sorted", "len") and len(above.args) == 1 and not above.keywords:
            return
        if isinstance(above, ast.Compare) or isinstance(above, ast.Assign) and isinstance(above.targets[0], ast.Name):
            return
        self.fault("L24", node)

    def faults(self):
        self.check_lines()
        self.check_words()
        self.check_strings()
        self.check_imports()
        self.check_module_level()
        self.check_names()
        self.check_statements()
        self.check_calls()
        self.check_classes()
        return self.found


class Package:
    """All files of the package, and what they define."""

    def __init__(self, files):
        self.defined, self.errors, self.methods, self.attributes, self.links = {}, set(ERRORS), set(), set(), {}
        self.properties = set()
        for name, text in files.items():
            tree = ast.parse(text)
            module = PACKAGE + "." + name[:-3]
            self.defined[module] = set()
            self.links[module] = [node.module for node in ast.walk(tree) if isinstance(node, ast.ImportFrom)]
            for node in tree.body:
                if isinstance(node, (ast.FunctionDef, ast.ClassDef)):
                    self.defined[module].add(node.name)
                elif isinstance(node, ast.Assign):
                    self.defined[module] |= {target.id for target in node.targets if isinstance(target, ast.Name)}
                if isinstance(node, ast.ClassDef):
                    self.note_class(node)

    def note_class(self, node):
        if any(getattr(base, "id", None) in self.errors for base in node.bases):
            self.errors.add(node.name)
        self.methods |= {item.name for item in node.body if isinstance(item, ast.FunctionDef)}
        self.properties |= {item.name for item in node.body if isinstance(item, ast.FunctionDef) and item.decorator_list}
        for part in ast.walk(node):
            if isinstance(part, ast.Attribute) and isinstance(part.ctx, ast.Store):
                self.attributes.add(part.attr)

    def circles(self):
        """The modules from which imports lead back to themselves."""
        found = []
        for module in self.links:
            reached, further = set(), list(self.links[module])
            while further:
                step = further.pop()
                if step not in reached:
                    reached.add(step)
                    further += self.links.get(step, [])
            if module in reached:
                found.append(module)
        return found


def faults(files):
    """The faults of a package, given as {file name: text}."""
    package = Package(files)
    found = [("L16", module, 1) for module in package.circles()]
    for name, text in files.items():
        if not re.fullmatch(r"[a-z][a-z0-9_]*\.py|__init__\.py", name):
            found.append(("L1", name, 1))
        found += File(name, text, package).faults()
    return found
