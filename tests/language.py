"""What a test can tell of the rules L1 to L28: complaints about the source of one file of the package."""

import ast
import builtins
import io
import re
import tokenize

BUILTINS = set("""
    len range enumerate zip min max sum abs sorted reversed int str bool bytes list tuple dict set isinstance ord repr
    any all divmod pow getattr hasattr setattr iter next map Exception ValueError TypeError KeyError IndexError
    LookupError ZeroDivisionError ArithmeticError OverflowError RuntimeError NotImplementedError AttributeError
    StopIteration NotImplemented
""".split())
LIBRARY = {
    "heapq": {"heappush", "heappop", "heapify", "heapreplace", "heappushpop"},
    "math": {"gcd", "lcm", "isqrt", "comb", "perm", "factorial"},
    # Not the products, since Ends is iterated over and has a length.
    "itertools": {"chain", "accumulate", "pairwise", "islice", "zip_longest"},
    "collections": {"defaultdict"},
}
METHODS = set("""
    append clear copy count endswith extend find get index insert isalnum isalpha isdigit islower isspace isupper items
    join keys ljust lower lstrip partition pop remove replace reverse rfind rjust rpartition rsplit rstrip setdefault
    split splitlines startswith strip update upper values zfill bit_length title capitalize swapcase casefold center
    expandtabs removeprefix removesuffix rindex isascii isdecimal isnumeric istitle isidentifier isprintable translate
    maketrans add discard sort
""".split())
OWN_NAMES_OF_BUILTIN_METHODS = set("""
    add discard append clear copy count endswith extend find get index insert isalnum isalpha isdigit islower isspace
    isupper items join keys ljust lower lstrip partition pop remove replace reverse rfind rjust rpartition rsplit rstrip
    setdefault split splitlines startswith strip update upper values zfill
""".split())
NO_ATTRIBUTES = set("""
    items keys values pop update append clear extend insert remove reverse setdefault sort args encode decode hex fromhex
    format format_map mro bit_count conjugate from_bytes to_bytes is_integer as_integer_ratio real imag numerator
    denominator union difference intersection issubset issuperset
""".split())
DUNDERS = set("""
    __init__ __eq__ __repr__ __str__ __len__ __enter__ __exit__ __call__ __iter__ __lt__ __le__ __gt__ __ge__ __ne__
    __add__ __sub__ __mul__ __floordiv__ __mod__ __pow__ __and__ __or__ __xor__ __lshift__ __rshift__ __neg__ __pos__
    __invert__ __abs__ __bool__ __contains__ __getitem__ __setitem__
""".split())
STATEMENTS = (
    ast.Assign, ast.AugAssign, ast.AnnAssign, ast.If, ast.While, ast.For, ast.Return, ast.Break, ast.Continue, ast.Pass,
    ast.Raise, ast.Assert, ast.Delete, ast.Nonlocal, ast.Match, ast.With, ast.Try, ast.Expr, ast.FunctionDef, ast.ClassDef,
    ast.ImportFrom,
)
NOWHERE = {"register", "mro", "elements", "open", "input", "law", "version_info", "with_traceback", "add_note"}
BARRED_WORDS = re.compile(
    r"\b(type|typing|typing_extensions|enum|Enum|IntEnum|StrEnum|Flag|IntFlag|Generic|Protocol|ABC|ABCMeta|namedtuple"
    r"|NamedTuple|TypedDict|TYPE_CHECKING|abstractmethod)\b|dataclass|overload|contextmanager")
BARRED_NAMES = re.compile(
    r"_wall|_pe_|_dcw_|_enum_|_cm_|_twin_re_|_lay_|_law_|_stub_|_sre|_WallAttr"
    r"|(_cold|_tuplegetter|_outside|_record|_written_out|_member_names)[0-9_]*$")
AT_ONCE = {"list", "tuple", "dict", "sorted", "sum", "any", "all", "enumerate", "zip", "min", "max", "set", "len", "reversed"}


def functions_in(tree):
    """All functions and methods."""
    return [node for node in ast.walk(tree) if isinstance(node, ast.FunctionDef)]


def classes_in(tree):
    """All classes."""
    return [node for node in ast.walk(tree) if isinstance(node, ast.ClassDef)]


def parameters_of(function):
    """The names of all parameters."""
    given = function.args
    more = [extra for extra in (given.vararg, given.kwarg) if extra is not None]
    return [row.arg for row in given.posonlyargs + given.args + given.kwonlyargs + more]


def bound_in(function):
    """The names that a function binds: parameters, targets, nested functions."""
    names = parameters_of(function)
    for node in ast.walk(function):
        if isinstance(node, ast.Name) and isinstance(node.ctx, ast.Store):
            names.append(node.id)
        elif isinstance(node, ast.FunctionDef) and node is not function:
            names.append(node.name)
        elif isinstance(node, ast.ExceptHandler) and node.name:
            names.append(node.name)
        elif isinstance(node, (ast.MatchAs, ast.MatchStar)) and node.name:
            names.append(node.name)
        elif isinstance(node, ast.Lambda):
            names.extend(parameters_of(node))
    return names


def bound_at_top(tree):
    """The names that are bound at module level, as often as they are."""
    names = []
    for node in tree.body:
        if isinstance(node, (ast.FunctionDef, ast.ClassDef)):
            names.append(node.name)
        elif isinstance(node, ast.ImportFrom) and node.module != "__future__":
            names.extend([row.asname or row.name for row in node.names])
        elif isinstance(node, ast.Assign):
            names.extend([target.id for target in node.targets if isinstance(target, ast.Name)])
    return names


def is_plain(node):
    """Whether an expression at module level is a literal of plain values, or names of such."""
    if isinstance(node, (ast.Tuple, ast.List)):
        return all(is_plain(part) for part in node.elts)
    if isinstance(node, ast.Dict):
        return all(key is not None and is_plain(key) for key in node.keys) and all(is_plain(part) for part in node.values)
    if isinstance(node, ast.UnaryOp):
        return isinstance(node.op, ast.USub) and isinstance(node.operand, ast.Constant)
    return isinstance(node, (ast.Constant, ast.Name))


def imports(tree):
    """L2: what is imported, and where."""
    seen_other = False
    for node in tree.body:
        if isinstance(node, ast.Expr) and isinstance(node.value, ast.Constant):
            continue
        if not isinstance(node, ast.ImportFrom):
            seen_other = True
            continue
        if seen_other:
            yield node, "L2 an import that does not stand at the top"
        names = {row.name for row in node.names}
        if node.module in LIBRARY:
            if not names <= LIBRARY[node.module] or any(row.asname for row in node.names):
                yield node, "L2 an import that the library rules do not name"
        elif node.module == "__future__":
            if names != {"annotations"}:
                yield node, "L2 another import from __future__"
        elif node.level != 0 or not re.fullmatch(r"earlyfields\.[a-z_]+", node.module) or "*" in names:
            yield node, "L2 an import from outside of the package, or not by its full name"
    for node in ast.walk(tree):
        if isinstance(node, ast.Import) or (isinstance(node, ast.ImportFrom) and node not in tree.body):
            yield node, "L2 L16 an import of another form or in another place"


def module_level(tree):
    """L3 and L15: what stands at module level."""
    for index, node in enumerate(tree.body):
        if isinstance(node, ast.Expr):
            if index != 0 or not isinstance(node.value, ast.Constant):
                yield node, "L3 an expression at module level"
        elif isinstance(node, ast.Assign):
            if len(node.targets) != 1 or not isinstance(node.targets[0], ast.Name) or not is_plain(node.value):
                yield node, "L3 no plain value for one name"
        elif not isinstance(node, (ast.FunctionDef, ast.ClassDef, ast.ImportFrom)):
            yield node, "L3 a statement that does not belong at module level"
    names = bound_at_top(tree)
    for name in sorted(set(names)):
        if names.count(name) > 1:
            yield tree, "L15 bound twice: " + name


def library(tree):
    """L2: a name of the library is only called, by its bare name, by position, and not at module level."""
    names = {row.name for node in tree.body if isinstance(node, ast.ImportFrom) and node.module in LIBRARY for row in node.names}
    good = [node.func for function in functions_in(tree) for node in ast.walk(function)
            if isinstance(node, ast.Call) and isinstance(node.func, ast.Name) and not node.keywords]
    for node in ast.walk(tree):
        if isinstance(node, ast.Name) and node.id in names and node not in good:
            yield node, "L2 a name of the library that is not only called"


def statements(tree):
    """L6, L7, L13, L20, L21, L24: statements and expressions that are not used."""
    for node in ast.walk(tree):
        if isinstance(node, ast.stmt) and not isinstance(node, STATEMENTS):
            yield node, "L6 a statement that is not allowed"
        elif isinstance(node, ast.Constant) and isinstance(node.value, (float, complex)):
            yield node, "L7 a float"
        elif isinstance(node, (ast.BinOp, ast.AugAssign)) and isinstance(node.op, (ast.Div, ast.MatMult)):
            yield node, "L7 a division that is not whole"
        elif isinstance(node, (ast.Await, ast.AsyncFunctionDef, ast.Global)):
            yield node, "L6 async or global"
        elif isinstance(node, (ast.Set, ast.SetComp)):
            yield node, "L24 a set, where a dict of True would do"
        elif isinstance(node, ast.GeneratorExp):
            yield node, "L7 a generator expression, where a list would do"
        elif isinstance(node, ast.Compare):
            for sign, side in zip(node.ops, node.comparators):
                if isinstance(sign, (ast.Is, ast.IsNot)):
                    if not isinstance(side, ast.Constant) or side.value not in (None, True, False):
                        yield node, "L20 `is` with something else than None, True and False"
        elif isinstance(node, (ast.AnnAssign, ast.arg)) and node.annotation is not None:
            yield node, "L21 an annotation"
        elif isinstance(node, ast.FunctionDef) and node.returns is not None:
            yield node, "L21 an annotation"
        elif isinstance(node, ast.BinOp) and isinstance(node.op, ast.Pow) and not isinstance(node.right, ast.Constant):
            yield node, "L27 an exponent that is no literal"


def functions(tree):
    """L4, L10, L15, L28: functions and their parameters."""
    tops = set(bound_at_top(tree))
    holders = {name for name in tops if any(node.name == name for node in classes_in(tree))}
    holders |= {row.name for node in tree.body if isinstance(node, ast.ImportFrom) for row in node.names}
    methods = [node for holder in classes_in(tree) for node in holder.body]
    for node in functions_in(tree):
        if node.end_lineno - node.lineno + 1 > 40:
            yield node, "L10 a function of more than 40 lines"
        for row in node.decorator_list:
            if node not in methods or ast.unparse(row).split(".")[-1] not in ("property", "setter", "staticmethod", "classmethod"):
                yield node, "L4 a decorator"
        for row in node.args.defaults + [row for row in node.args.kw_defaults if row is not None]:
            if not is_plain(row) or isinstance(row, (ast.List, ast.Dict)):
                yield node, "L4 a default value that is not plain"
        for name in bound_in(node):
            if name in dir(builtins):
                yield node, "L15 the name of a builtin: " + name
            if name in holders:
                yield node, "L15 the name of a class or an import: " + name
        returns = [row for row in ast.walk(node) if isinstance(row, ast.Return)]
        if node.name == "__init__" and any(row.value is not None for row in returns):
            yield node, "L28 __init__ returns something"
        if node.name in ("__str__", "__repr__", "__len__") and not isinstance(node.body[-1], ast.Return):
            yield node, "L28 no return at the end"
        if node.name == "__len__" and any(not ast.unparse(row.value).startswith("len(") for row in returns):
            yield node, "L28 a length that is no len(..)"


def names_used(tree):
    """L8, L12, L17: each name is bound somewhere or an allowed builtin, and has a plain form."""
    known = set(bound_at_top(tree)) | BUILTINS
    for node in tree.body:
        local = set()
        for function in functions_in(node):
            local |= set(bound_in(function))
        for row in ast.walk(node):
            if isinstance(row, ast.Name) and isinstance(row.ctx, ast.Load) and row.id not in known | local:
                if row.id not in ("super", "property", "staticmethod", "classmethod"):
                    yield row, "L8 a name that is neither bound nor an allowed builtin: " + row.id
    for node in ast.walk(tree):
        for name in (getattr(node, "id", None), getattr(node, "attr", None), getattr(node, "arg", None), getattr(node, "name", None)):
            if not isinstance(name, str):
                continue
            if name in DUNDERS or name == "*":
                continue
            if not re.fullmatch("_|_?[A-Za-z][A-Za-z0-9_]*", name) and not isinstance(node, ast.alias):
                yield node, "L12 no plain name: " + name
            if name in NOWHERE or BARRED_NAMES.match(name):
                yield node, "L12 L17 a name that is not used: " + name
            if name == "_" and isinstance(node, ast.Name) and isinstance(node.ctx, ast.Load):
                yield node, "L12 _ is read"


def classes(tree):
    """L5, L18, L26: what stands in a class."""
    for holder in classes_in(tree):
        if holder.decorator_list or holder.keywords or holder not in tree.body:
            yield holder, "L5 a class that is decorated, nested or made in another way"
        for node in holder.body:
            if isinstance(node, ast.FunctionDef):
                if node.name.startswith("__") and node.name not in DUNDERS:
                    yield node, "L5 a double-underscore method that is not allowed: " + node.name
                if any(hasattr(kind, node.name) for kind in (str, int, list, dict, set, bytes)):
                    if node.name not in OWN_NAMES_OF_BUILTIN_METHODS and not node.name.startswith("__"):
                        yield node, "L26 the name of a method of a builtin value: " + node.name
            elif isinstance(node, ast.Assign):
                if not is_plain(node.value) or any(not isinstance(target, ast.Name) for target in node.targets):
                    yield node, "L5 a class value that is not plain"
            elif not (isinstance(node, ast.Expr) and isinstance(node.value, ast.Constant)):
                yield node, "L5 a statement that does not belong in a class"
    for node in ast.walk(tree):
        if isinstance(node, ast.Attribute) and isinstance(node.ctx, ast.Store) and node.attr in NO_ATTRIBUTES:
            yield node, "L26 an attribute that is not called so: " + node.attr


def property_of(function):
    """The name of the property whose getter or setter a method is, or None."""
    for row in function.decorator_list:
        if ast.unparse(row) in ("property", function.name + ".setter"):
            return function.name
    return None


def properties(tree):
    """L5 Properties: their parameters, and that reading one changes nothing."""
    for node in functions_in(tree):
        if property_of(node) is None:
            continue
        setter = isinstance(node.decorator_list[0], ast.Attribute)
        if len(node.decorator_list) != 1 or len(parameters_of(node)) != 1 + setter or node.args.defaults:
            yield node, "L5 a property with other parameters or decorators"
        for row in ast.walk(node):
            if not setter and isinstance(row, (ast.Attribute, ast.Subscript)) and isinstance(row.ctx, (ast.Store, ast.Del)):
                yield node, "L5 a property that changes something"


def supers(tree):
    """L5: `super()` stands only as `super().told(..)` in a method of a class."""
    good = set()
    for holder in classes_in(tree):
        for method in holder.body:
            for node in ast.walk(method) if isinstance(method, ast.FunctionDef) and not method.decorator_list else ():
                if isinstance(node, ast.Call) and isinstance(node.func, ast.Attribute) and isinstance(node.func.value, ast.Call):
                    word = node.func.attr
                    if not word.startswith("__") or word == method.name == "__init__":
                        good.add(node.func.value.func)
    for node in ast.walk(tree):
        if isinstance(node, ast.Name) and node.id == "super" and node not in good:
            yield node, "L5 super in another form"
        elif isinstance(node, ast.Call) and isinstance(node.func, ast.Name) and node.func.id == "super" and (node.args or node.keywords):
            yield node, "L5 super in another form"


def generators(tree):
    """L23: where a `yield` stands, and what else a generator may not have."""
    for function in functions_in(tree):
        yields = [node for node in ast.walk(function) if isinstance(node, (ast.Yield, ast.YieldFrom))]
        if not yields:
            continue
        if function.name.startswith("__") or function.decorator_list or function.name in METHODS:
            yield function, "L23 a generator that may be none"
        plain = [node.value for node in ast.walk(function) if isinstance(node, ast.Expr)]
        if any(node not in plain for node in yields):
            yield function, "L23 a yield that is no statement of its own"
        for node in ast.walk(function):
            if isinstance(node, ast.Return) and node.value is not None:
                yield node, "L23 a generator that returns something"
            if isinstance(node, (ast.Try, ast.With)) and any(row in yields for row in ast.walk(node)):
                yield node, "L23 a yield under a try or a with"


def errors(tree):
    """L19: how errors are raised and caught."""
    for node in ast.walk(tree):
        if isinstance(node, ast.Raise) and node.exc is not None:
            if not isinstance(node.exc, ast.Call) or not isinstance(node.exc.func, ast.Name):
                yield node, "L19 an error that is not created on the spot"
        if isinstance(node, ast.ExceptHandler):
            kinds = node.type.elts if isinstance(node.type, ast.Tuple) else [node.type]
            for kind in kinds:
                if not isinstance(kind, ast.Name) or kind.id in ("Exception", "TypeError", "ArithmeticError", "OverflowError",
                                                                 "RuntimeError", "NotImplementedError", "AttributeError"):
                    yield node, "L19 an error that is not caught"


def calls(tree, own):
    """L22, L23, L25: what is called, and where what is iterated at once stands; own are the package's own methods."""
    good = set()
    for node in ast.walk(tree):
        if isinstance(node, (ast.For, ast.comprehension)):
            good.add(node.iter)
        elif isinstance(node, ast.Call) and isinstance(node.func, ast.Name) and node.func.id in AT_ONCE:
            good |= set(node.args)
        elif isinstance(node, ast.Call) and isinstance(node.func, ast.Attribute) and node.func.attr == "join":
            good |= set(node.args)
    for node in ast.walk(tree):
        if not isinstance(node, ast.Call):
            continue
        word = node.func.id if isinstance(node.func, ast.Name) else getattr(node.func, "attr", "")
        if isinstance(node.func, ast.Name) and word in ("zip", "enumerate", "reversed", "range", "map") and node not in good:
            yield node, "L23 not iterated at once: " + word
        if isinstance(node.func, ast.Attribute) and word in ("items", "keys", "values") and node not in good:
            yield node, "L23 not iterated at once: " + word
        if isinstance(node.func, ast.Attribute) and word == "sort":
            yield node, "L25 a sort where classes have lengths"
        if isinstance(node.func, ast.Attribute) and word not in METHODS | own | DUNDERS:
            yield node, "L25 a method that is not allowed: " + word
        if isinstance(node.func, ast.Name) and word in BUILTINS:
            for row in node.keywords:
                if row.arg not in ("key", "reverse", "default", "start", "strict"):
                    yield node, "L22 a keyword of a builtin: " + str(row.arg)


def text(source):
    """L10, L14, L17, L27: lines, characters, words and strings."""
    lines = source.split("\n")
    if len(lines) > 400:
        yield 400, "L10 a file of more than 399 lines"
    for number, line in enumerate(lines, 1):
        if len(line) > 120:
            yield number, "L10 a line of more than 120 characters"
        if re.search("[^ -~]", line):
            yield number, "L14 a character that is not allowed"
    for token in tokenize.generate_tokens(io.StringIO(source).readline):
        number = token.start[0]
        if token.type not in (tokenize.COMMENT,) and not token.string.startswith('"""') and BARRED_WORDS.search(token.string):
            yield number, "L17 a word that does not occur: " + token.string
        if token.type == tokenize.STRING:
            if "%" in token.string:
                yield number, "L27 a character that no string has"
            if re.search(r"\\[^nt\\'\"]", token.string.replace("\\\\", "")):
                yield number, "L27 an escape"
            if re.search(r"\._+['\"]+$", token.string) or re.fullmatch(r"['\"]__.*__['\"]", token.string):
                yield number, "L27 an underscore where none may stand"


def complaints(source, own=frozenset()):
    """All complaints about the source of a file, each with its line; own are the names of the package's methods."""
    rows = list(text(source))
    tree = ast.parse(source)
    for check in (imports, library, module_level, statements, functions, names_used, classes, properties, supers, generators, errors):
        rows += [(getattr(node, "lineno", 1), why) for node, why in check(tree)]
    rows += [(node.lineno, why) for node, why in calls(tree, set(own))]
    return sorted(rows)
