"""What a test can see of the rules for the files of the package.

Each check returns a list of faults, (rule, line, words). Where a rule allows
something that the package does without, the check is narrower than the rule.
"""

import ast
import builtins
import re

LIBRARY = {
    "heapq": ["heappush", "heappop", "heapify", "heapreplace", "heappushpop"],
    "math": ["gcd", "lcm", "isqrt", "comb", "perm", "factorial"],
}
BUILTINS = """len range enumerate zip min max sum abs sorted reversed int str bool bytes list tuple dict set
    isinstance ord repr any all divmod pow Exception ValueError TypeError KeyError IndexError LookupError
    ZeroDivisionError AttributeError super property iter next""".split()
METHODS = """append clear copy count endswith extend find get index insert isalnum isalpha isdigit islower
    isspace isupper items join keys ljust lower lstrip partition pop remove replace reverse rfind rjust
    rpartition rsplit rstrip setdefault split splitlines startswith strip update upper values zfill bit_length
    add discard""".split()
BARRED = """register mro elements open input law version_info with_traceback add_note attrgetter breakpoint
    builtins compile copyright credits delattr dir eval exec exit gc globals help id importlib license locals
    methodcaller os quit vars type typing enum dataclass overload contextmanager namedtuple metaclass""".split()
BARRED_BEGINNINGS = ("_wall", "_pe_", "_dcw_", "_enum_", "_cm_", "_twin_re_", "_lay_", "_law_", "_stub_", "_sre")
DUNDERS = """__init__ __eq__ __ne__ __repr__ __str__ __len__ __call__ __iter__ __getitem__ __contains__
    __lt__ __le__ __gt__ __ge__ __bool__""".split()
ONCE = ("zip", "enumerate", "reversed", "range")
TAKES_ONCE = ("list", "tuple", "dict", "sorted", "sum", "any", "all", "enumerate", "zip", "min", "max", "reversed")
NODES = """Module FunctionDef ClassDef ImportFrom alias arguments arg Return Assign AugAssign For While If
    Raise Try ExceptHandler Expr Break Continue Pass Delete BoolOp And Or BinOp Add Sub Mult FloorDiv Mod Pow
    LShift RShift BitOr BitXor BitAnd UnaryOp Not USub Invert IfExp Lambda ListComp DictComp SetComp
    comprehension Compare Eq NotEq Lt LtE Gt GtE Is IsNot In NotIn Call keyword JoinedStr FormattedValue Constant
    Attribute Subscript Slice Starred Name Load Store Del List Tuple Dict Set""".split()


def parents_of(tree):
    return {child: node for node in ast.walk(tree) for child in ast.iter_child_nodes(node)}


def functions_of(tree):
    return [node for node in ast.walk(tree) if isinstance(node, ast.FunctionDef)]


def classes_of(tree):
    return [node for node in ast.walk(tree) if isinstance(node, ast.ClassDef)]


def own_methods(owner):
    """What is defined in the body of a class, in order; a property and its setter are two."""
    return [node for node in owner.body if isinstance(node, ast.FunctionDef)]


def decorators_of(node):
    return [ast.unparse(item) for item in node.decorator_list]


def is_getter(node):
    return decorators_of(node) == ["property"]


def is_setter(node):
    return decorators_of(node) == [node.name + ".setter"]


def text_faults(text):
    """L10, L14: lengths and characters."""
    faults = []
    for at, line in enumerate(text.split("\n"), 1):
        if len(line) > 120:
            faults.append(("L10", at, "a long line"))
        if any(not " " <= sign <= "~" for sign in line):
            faults.append(("L14", at, "a sign that is not allowed"))
    if len(text.splitlines()) > 399:
        faults.append(("L10", 400, "a long file"))
    if not text.endswith("\n"):
        faults.append(("L10", 0, "no line feed at the end"))
    return faults


def size_faults(tree):
    return [
        ("L10", node.lineno, "a long function")
        for node in functions_of(tree) if node.end_lineno - node.lineno >= 40
    ]


def node_faults(tree):
    """L6, L7: kinds of statements and values."""
    faults = []
    parents = parents_of(tree)
    for node in ast.walk(tree):
        if type(node).__name__ not in NODES:
            faults.append(("L6", getattr(node, "lineno", 0), type(node).__name__))
        if getattr(node, "decorator_list", []):
            method = isinstance(node, ast.FunctionDef) and isinstance(parents[node], ast.ClassDef)
            if not method or not (is_getter(node) or is_setter(node)):
                faults.append(("L4", node.lineno, "a decorator"))
        if isinstance(node, ast.Constant) and isinstance(node.value, (float, complex)):
            faults.append(("L7", node.lineno, "a float"))
        if isinstance(node, ast.AugAssign) and isinstance(node.op, ast.Div):
            faults.append(("L7", node.lineno, "/="))
        if isinstance(node, (ast.Nonlocal, ast.Global)):
            faults.append(("L6", node.lineno, "global"))
    return faults


def is_plain(node):
    """Whether an expression at module level is a plain value."""
    return all(
        isinstance(item, (ast.Constant, ast.Tuple, ast.Dict, ast.BinOp, ast.UnaryOp, ast.operator, ast.unaryop,
                          ast.Name, ast.Load))
        for item in ast.walk(node)
    )


def module_faults(tree):
    """L3, L15: what stands at module level, and each name once."""
    faults, names, ahead = [], [], True
    for at, node in enumerate(tree.body):
        if isinstance(node, ast.Expr) and isinstance(node.value, ast.Constant) and at == 0:
            continue
        if isinstance(node, ast.ImportFrom):
            names.extend(item.name for item in node.names)
            if not ahead:
                faults.append(("L2", node.lineno, "an import that is not at the top"))
            continue
        ahead = False
        if isinstance(node, (ast.FunctionDef, ast.ClassDef)):
            names.append(node.name)
        elif isinstance(node, ast.Assign) and len(node.targets) == 1 and isinstance(node.targets[0], ast.Name) \
                and is_plain(node.value):
            names.append(node.targets[0].id)
        else:
            faults.append(("L3", node.lineno, "a statement at module level"))
    faults += [("L15", 0, "bound twice: " + name) for name in sorted(set(names)) if names.count(name) > 1]
    return faults


def import_faults(tree, defined):
    """L2, L16: imports; defined tells the names that each module of the package defines."""
    faults = []
    for node in ast.walk(tree):
        if isinstance(node, ast.Import):
            faults.append(("L16", node.lineno, "import of a module"))
        if isinstance(node, ast.ImportFrom):
            known = defined.get(node.module, LIBRARY.get(node.module, []))
            for item in node.names:
                if node.level or item.asname or item.name not in known:
                    faults.append(("L16", node.lineno, f"import of {item.name}"))
    used = {node.id for node in ast.walk(tree) if isinstance(node, ast.Name)}
    for name in imported(tree):
        if name not in used:
            faults.append(("L2", 0, f"{name} is imported and not used"))
    return faults


def imported(tree):
    return [item.name for node in ast.walk(tree) if isinstance(node, ast.ImportFrom) for item in node.names]


def bound_names(tree):
    """All names that are bound anywhere, with their lines."""
    found = []
    for node in ast.walk(tree):
        if isinstance(node, (ast.FunctionDef, ast.ClassDef)):
            found.append((node.name, node.lineno))
        elif isinstance(node, ast.arg):
            found.append((node.arg, node.lineno))
        elif isinstance(node, ast.Name) and not isinstance(node.ctx, ast.Load):
            found.append((node.id, node.lineno))
        elif isinstance(node, ast.ExceptHandler) and node.name:
            found.append((node.name, node.lineno))
    return found


def methods_of(tree):
    return {node.name for owner in classes_of(tree) for node in own_methods(owner)}


def class_names(tree):
    """The parts of each `type(x).__name__`, where x is a plain name."""
    found = []
    for node in ast.walk(tree):
        if isinstance(node, ast.Attribute) and node.attr == "__name__" and isinstance(node.value, ast.Call):
            call = node.value
            if getattr(call.func, "id", "") == "type" and len(call.args) == 1 and isinstance(call.args[0], ast.Name):
                found += [node, call.func]
    return found


def name_faults(tree):
    """L8, L12, L15, L17: names."""
    faults = []
    methods = methods_of(tree)
    allowed = class_names(tree)
    attributes = [
        (node.attr, node.lineno) for node in ast.walk(tree) if isinstance(node, ast.Attribute) and node not in allowed
    ]
    for name, line in bound_names(tree) + attributes:
        plain = re.fullmatch("_|_?[A-Za-z][A-Za-z0-9_]*", name)
        if not (plain or name in DUNDERS) or name.startswith(BARRED_BEGINNINGS) or name in BARRED:
            faults.append(("L17", line, name))
    for name, line in bound_names(tree):
        if hasattr(builtins, name) and name not in methods:
            faults.append(("L15", line, f"{name} is a builtin"))
    above = set(imported(tree)) | {node.name for node in classes_of(tree)}
    for function in functions_of(tree):
        for name, line in bound_names(function):
            if name in above and name != function.name:
                faults.append(("L15", line, f"{name} is an import or a class"))
    for node in ast.walk(tree):
        if isinstance(node, ast.Name) and isinstance(node.ctx, ast.Load) and node not in allowed:
            if node.id == "_" or hasattr(builtins, node.id) and node.id not in BUILTINS:
                faults.append(("L8", node.lineno, node.id))
    return faults


def string_faults(tree):
    """L17, L27: what stands in strings that are no docstrings."""
    documents = set()
    for node in ast.walk(tree):
        if isinstance(node, (ast.Module, ast.FunctionDef, ast.ClassDef)) and ast.get_docstring(node) is not None:
            documents.add(node.body[0].value)
    faults = []
    for node in ast.walk(tree):
        if isinstance(node, ast.Constant) and isinstance(node.value, str) and node not in documents:
            words = re.findall("[A-Za-z_]+", node.value)
            if "%" in node.value or "__" in node.value or node.value.endswith("._"):
                faults.append(("L27", node.lineno, node.value))
            if any(word in ("typing", "enum", "dataclass", "overload", "metaclass") for word in words):
                faults.append(("L17", node.lineno, node.value))
    return faults


def class_faults(tree):
    """L5, L18, L28: what the double-underscore methods and properties of classes are like."""
    faults = []
    for owner in classes_of(tree):
        own = own_methods(owner)
        names = [node.name for node in own]
        if "__getitem__" in names and ("__iter__" not in names or "keys" in names):
            faults.append(("L5", owner.lineno, "__getitem__ without __iter__"))
        for place, node in enumerate(own):
            found = accessor_faults(node, own[:place])
            if not is_setter(node):
                found += method_faults(node.name, node)
            faults += [("L5", node.lineno, words) for words in found]
    return faults


def accessor_faults(node, above):
    """What is wrong with a method as a property, a setter or neither, below others of its class, in words."""
    same = [item for item in above if item.name == node.name]
    if is_setter(node):
        takes, allowed = "self, value", len(same) == 1 and is_getter(same[0])
    else:
        takes, allowed = "self" if is_getter(node) else None, not same
    faults = [] if allowed else [node.name + " stands twice, or its setter not below it"]
    if takes is not None and ast.unparse(node.args) != takes:
        faults.append(node.name + " has other parameters")
    return faults


def method_faults(name, node):
    """What is wrong with a method that has to be plain, in words."""
    plain = name in ("__eq__", "__len__", "__str__", "__getitem__", "__contains__", "__iter__") or node.decorator_list
    if not plain:
        return []
    faults = []
    if any(isinstance(item, (ast.Assign, ast.AugAssign, ast.Delete, ast.Try)) for item in ast.walk(node)):
        faults.append(name + " changes something")
    last = ast.unparse(node.body[-1])
    if not last.startswith("return "):
        faults.append(name + " does not end with a return")
    begin = {"__len__": "return len(", "__str__": "return str(", "__iter__": "return iter(self."}.get(name, "")
    if not last.startswith(begin) or begin and len(node.body) > 1:
        faults.append(name + " is not the one plain return")
    return faults


def property_faults(trees):
    """L5: how all files of a package use what is a property in one of them; as (rule, file, line, words).

    trees tells the tree of each file by its name.
    """
    owners = {owner.name: owner for tree in trees.values() for owner in classes_of(tree)}
    getters = [(name, node.name) for name, owner in owners.items() for node in own_methods(owner) if is_getter(node)]
    setters = [(name, node.name) for name, owner in owners.items() for node in own_methods(owner) if is_setter(node)]
    unset = {name for owner, name in getters if (owner, name) not in setters}
    faults = []
    for file, tree in trees.items():
        for node in ast.walk(tree):
            words = attribute_faults(node, {name for _, name in getters}, unset, owners)
            faults += [("L5", file, node.lineno, word) for word in words]
        faults += [
            ("L5", file, owner.lineno, "a property of an error")
            for owner in classes_of(tree) if is_error(owner.name, owners) and owner.name in dict(getters)
        ]
    return faults + class_read_faults(trees, getters, owners)


def attribute_faults(node, properties, unset, owners):
    """What is wrong with a statement or an expression as a use of properties, in words."""
    if isinstance(node, ast.For):
        told = [item for item in ast.walk(node) if is_property(item, properties)]
        return ["a property is assigned in a loop: " + item.attr for item in told if isinstance(item.ctx, ast.Store)]
    if isinstance(node, ast.Call) and is_property(node.func, properties):
        return ["a property is called: " + node.func.attr]
    if not is_property(node, properties):
        return []
    if isinstance(node.ctx, ast.Del):
        return ["a property is deleted: " + node.attr]
    if isinstance(node.ctx, ast.Store) and node.attr in unset:
        return ["a property that is given has a setter: " + node.attr]
    if getattr(node.value, "id", None) in owners:
        return ["a property is read off a class: " + node.attr]
    return []


def is_property(node, properties):
    return isinstance(node, ast.Attribute) and node.attr in properties


def is_error(name, owners):
    """Whether a class of the package, or of Python's own, is one of errors."""
    if name in owners:
        return any(is_error(getattr(base, "id", None), owners) for base in owners[name].bases)
    return isinstance(name, str) and name.endswith(("Error", "Exception"))


def class_read_faults(trees, getters, owners):
    """L5: where a method is read off a class, no class stores what is a property of another one."""
    methods = {name for tree in trees.values() for name in methods_of(tree)}
    read = any(
        isinstance(node, ast.Attribute) and node.attr in methods and getattr(node.value, "id", None) in owners
        for tree in trees.values() for node in ast.walk(tree)
    )
    return [
        ("L5", file, node.lineno, "a property of another class is stored: " + node.attr)
        for file, tree in trees.items() for owner in classes_of(tree) for node in ast.walk(owner)
        if read and is_property(node, {name for other, name in getters if other != owner.name})
        and isinstance(node.ctx, ast.Store)
    ]


def error_faults(tree):
    """L18, L19: an AttributeError is raised on the spot, and nothing else is done with this class."""
    raised = [
        node.exc.func for node in ast.walk(tree) if isinstance(node, ast.Raise) and isinstance(node.exc, ast.Call)
    ]
    return [
        ("L19", node.lineno, "AttributeError") for node in ast.walk(tree)
        if getattr(node, "id", None) == "AttributeError" and node not in raised
    ]


def call_faults(tree, methods):
    """L20, L22 to L25: calls, sets, what is iterated at once, and comparisons by is.

    methods tells the names of the package's own methods that may be called.
    """
    faults = []
    parents = parents_of(tree)
    for node in ast.walk(tree):
        parent = parents.get(node)
        if isinstance(node, ast.Call) and isinstance(node.func, ast.Name):
            faults += builtin_faults(node, parent)
        if isinstance(node, ast.Call) and isinstance(node.func, ast.Attribute):
            own = isinstance(node.func.value, ast.Name) and node.func.value.id == "self"
            above = isinstance(node.func.value, ast.Call) and getattr(node.func.value.func, "id", "") == "super"
            if node.func.attr not in METHODS and node.func.attr not in methods and not own and not above:
                faults.append(("L25", node.lineno, node.func.attr))
            if node.keywords and not own and not above:
                faults.append(("L25", node.lineno, "keywords"))
        if isinstance(node, (ast.Set, ast.SetComp)) and not takes_set(parent):
            faults.append(("L24", node.lineno, "a set"))
        if isinstance(node, ast.Compare) and isinstance(node.ops[0], (ast.Is, ast.IsNot)):
            other = node.comparators[0]
            if not isinstance(other, ast.Constant) or not any(other.value is x for x in (None, True, False)):
                faults.append(("L20", node.lineno, "is"))
    return faults


def takes_set(parent):
    if isinstance(parent, ast.Call) and isinstance(parent.func, ast.Name):
        return parent.func.id in ("len", "sorted") and not parent.keywords
    return isinstance(parent, ast.Compare)


def builtin_faults(node, parent):
    name = node.func.id
    faults = []
    if name == "set" and not takes_set(parent):
        faults.append(("L24", node.lineno, "a set"))
    if name in ONCE:
        looped = isinstance(parent, (ast.For, ast.comprehension)) and parent.iter is node
        taken = isinstance(parent, ast.Call) and getattr(parent.func, "id", "") in TAKES_ONCE
        if not looped and not taken:
            faults.append(("L23", node.lineno, name))
    allowed = {
        "sorted": ["key", "reverse"], "min": ["key", "default"], "max": ["key", "default"], "sum": ["start"],
        "enumerate": ["start"], "zip": ["strict"],
    }
    if name in BUILTINS and any(item.arg not in allowed.get(name, []) for item in node.keywords):
        faults.append(("L22", node.lineno, "keywords of " + name))
    return faults


def file_faults(text, defined, methods=()):
    """All faults of the text of a file, by the names that each module defines, and by the package's methods."""
    tree = ast.parse(text)
    faults = text_faults(text)
    for check in (size_faults, node_faults, module_faults, name_faults, string_faults, class_faults, error_faults):
        faults += check(tree)
    return faults + call_faults(tree, methods) + import_faults(tree, defined)
