"""More rules of the language subset that a script can see: what is iterated, kept, sorted, passed and called."""

import ast
import builtins
import re

LAZY = ("range", "zip", "enumerate", "reversed")
VIEWS = ("items", "keys", "values")
# What may take a range, a view and the like as its first argument.
TAKERS = ("list", "tuple", "dict", "sorted", "sum", "any", "all", "enumerate", "zip", "bytes", "iter")
PRODUCTS = ("product", "combinations", "permutations", "chain", "accumulate", "pairwise", "islice", "zip_longest")
KEPT_TAKERS = ("list", "tuple", "sorted", "sum", "min", "max", "any", "all")
MODIFIERS = ("append", "clear", "extend", "insert", "pop", "remove", "reverse", "setdefault", "update", "sort", "add",
             "discard")
FREE_ATTRIBUTES = "count index title find get join lower upper split strip copy add".split()
# Some of these came to Python only after 3.11.
MORE_BUILTIN_NAMES = ("args", "is_integer", "from_number", "with_traceback", "add_note")
FIRST_METHODS = """append clear copy count endswith extend find get index insert isalnum isalpha isdigit islower isspace
isupper items join keys ljust lower lstrip partition pop remove replace reverse rfind rjust rpartition rsplit rstrip
setdefault split splitlines startswith strip update upper values zfill bit_length add discard""".split()
ISINSTANCE = ("int", "str", "bool", "bytes", "list", "tuple", "dict")
KEY_BUILTINS = ("len", "int", "str", "abs", "sum", "min", "max", "tuple")
FUNCTION_NODES = (ast.FunctionDef, ast.Lambda)
COMPREHENSIONS = (ast.ListComp, ast.SetComp, ast.DictComp, ast.GeneratorExp)


def builtin_names():
    """The methods and attributes of strings, numbers, lists, dicts, sets and bytes."""
    kinds = (str, int, float, bool, bytes, list, tuple, dict, set, frozenset)
    names = {name for kind in kinds for name in dir(kind) if not name.startswith("__")}
    return names | set(MORE_BUILTIN_NAMES)


BUILTIN_NAMES = builtin_names()


def parents_of(tree):
    return {child: node for node in ast.walk(tree) for child in ast.iter_child_nodes(node)}


def is_call_of(node, names):
    return isinstance(node, ast.Call) and isinstance(node.func, ast.Name) and node.func.id in names


def is_lazy(node):
    return is_call_of(node, LAZY) or is_view(node)


def is_view(node):
    return isinstance(node, ast.Call) and isinstance(node.func, ast.Attribute) and node.func.attr in VIEWS and not node.args


def lazy_name(node):
    return node.func.id if isinstance(node.func, ast.Name) else "view"


def is_join(node):
    return (isinstance(node, ast.Call) and isinstance(node.func, ast.Attribute) and node.func.attr == "join"
            and isinstance(node.func.value, ast.Constant))


def is_iterated(node, parent):
    """Whether a loop or a comprehension goes over the node."""
    return isinstance(parent, (ast.For, ast.comprehension)) and parent.iter is node


def is_first_of(node, parent, names):
    return is_call_of(parent, names) and bool(parent.args) and parent.args[0] is node


def stands_well(node, parent):
    """Whether a range, a zip, a view .. is iterated on the spot."""
    name = lazy_name(node)
    if is_iterated(node, parent) or is_first_of(node, parent, TAKERS) or (is_join(parent) and parent.args[0] is node):
        return True
    if is_call_of(parent, ("min", "max")) and parent.args == [node]:
        return all(keyword.arg == "default" for keyword in parent.keywords)
    if is_call_of(parent, PRODUCTS) and node in parent.args:
        return True
    if name in ("range", "view") and is_first_of(node, parent, ("len",)):
        return True
    if name == "range" and is_first_of(node, parent, ("reversed",)):
        return True
    is_in = isinstance(parent, ast.Compare) and all(isinstance(op, (ast.In, ast.NotIn)) for op in parent.ops)
    if is_in and node in parent.comparators:
        return name == "range" or (name == "view" and node.func.attr == "keys")
    return False


def function_around(node, parents):
    while node in parents:
        node = parents[node]
        if isinstance(node, FUNCTION_NODES):
            return node
    return None


def own_nodes(function):
    """The nodes of a function, those of functions nested in it too."""
    return [node for part in ast.iter_child_nodes(function) for node in ast.walk(part)]


def is_kept(node, parent, parents):
    """Whether a plain local variable that is assigned once keeps it, and is used as it may be."""
    if not (isinstance(parent, ast.Assign) and parent.value is node and len(parent.targets) == 1):
        return False
    target = parent.targets[0]
    function = function_around(node, parents)
    if not isinstance(target, ast.Name) or not isinstance(function, ast.FunctionDef):
        return False
    nodes = own_nodes(function)
    names = [part for part in nodes if isinstance(part, ast.Name) and part.id == target.id]
    if [part for part in names if not isinstance(part.ctx, ast.Load)] != [target]:
        return False
    if target.id in [part.arg for part in nodes if isinstance(part, ast.arg)]:
        return False
    kind = lazy_name(node)
    if kind != "range" and (any(isinstance(part, (ast.Yield, ast.YieldFrom)) for part in nodes)
                            or (function.name.startswith("__") and function.name != "__init__")):
        return False
    uses = [part for part in names if part is not target]
    if kind in ("zip", "enumerate", "reversed") and len(uses) != 1:
        return False
    return all(is_good_use(use, kind, function, parent, parents) for use in uses)


def is_good_use(use, kind, function, assignment, parents):
    parent = parents[use]
    around = []
    node = use
    while node is not function:
        node = parents[node]
        around.append(node)
    if any(isinstance(node, FUNCTION_NODES + (ast.GeneratorExp,)) for node in around[:-1]):
        return False
    if kind in ("zip", "enumerate", "reversed"):
        loops = [node for node in around if isinstance(node, (ast.For, ast.While))]
        before = [node for node in loops if not is_iterated(use, node)]
        if any(assignment not in list(ast.walk(node)) for node in before):
            return False
        return is_iterated(use, parent) or is_first_of(use, parent, KEPT_TAKERS)
    if is_iterated(use, parent) or is_first_of(use, parent, KEPT_TAKERS + ("len",)):
        return True
    if isinstance(parent, ast.Compare) and use in parent.comparators:
        return all(isinstance(op, (ast.In, ast.NotIn)) for op in parent.ops)
    if kind != "range":
        return False
    if isinstance(parent, ast.Subscript) and parent.value is use:
        return True
    return is_call_of(parent, ("enumerate", "reversed", "zip")) and stands_well(parent, parents[parent])


def check_iterated(file):
    """L23: range, zip, enumerate, reversed and views of dicts are iterated on the spot."""
    parents = parents_of(file.tree)
    for node in file.nodes:
        if is_lazy(node):
            parent = parents[node]
            if not stands_well(node, parent) and not is_kept(node, parent, parents):
                file.bad("L23", node.lineno, f"{ast.unparse(node)} is not iterated on the spot")
        if isinstance(node, ast.Name) and isinstance(node.ctx, ast.Load) and node.id in LAZY:
            parent = parents[node]
            if not (isinstance(parent, ast.Call) and parent.func is node):
                file.bad("L22", node.lineno, f"{node.id} is not called")
        if isinstance(node, (ast.For, ast.comprehension)):
            check_loop(file, node, parents)


def check_loop(file, loop, parents):
    """L23: what a loop goes over is not modified in it."""
    over = iterated_names(loop.iter)
    if isinstance(loop, ast.For):
        inside = [node for part in loop.body + loop.orelse for node in ast.walk(part)]
    else:
        inside = list(ast.walk(parents[loop]))
    for node in inside:
        changed = None
        if isinstance(node, ast.Subscript) and not isinstance(node.ctx, ast.Load):
            changed = node.value
        elif isinstance(node, ast.Call) and isinstance(node.func, ast.Attribute) and node.func.attr in MODIFIERS:
            changed = node.func.value
        elif is_call_of(node, ("heappush", "heappop", "heapify", "heapreplace", "heappushpop")):
            changed = node.args[0]
        elif isinstance(node, ast.AugAssign):
            changed = node.target
        if changed is not None and ast.unparse(changed) in over:
            file.bad("L23", node.lineno, f"{ast.unparse(changed)} is modified where a loop goes over it")


def iterated_names(node):
    """The names and attributes that a loop goes over, through zip, enumerate and the like too."""
    if isinstance(node, (ast.Name, ast.Attribute)):
        return {ast.unparse(node)}
    if is_view(node):
        return iterated_names(node.func.value)
    if is_call_of(node, ("zip", "enumerate", "reversed")):
        return set().union(*[iterated_names(arg) for arg in node.args]) if node.args else set()
    if isinstance(node, ast.IfExp):
        return iterated_names(node.body) | iterated_names(node.orelse)
    if isinstance(node, ast.BoolOp):
        return set().union(*[iterated_names(part) for part in node.values])
    return set()


def attributes_named(node):
    """The names of attributes that a node gives to objects."""
    if isinstance(node, ast.Attribute) and not isinstance(node.ctx, ast.Load):
        return [node.attr]
    if is_call_of(node, ("setattr", "getattr", "hasattr")) and len(node.args) > 1:
        return [node.args[1].value] if isinstance(node.args[1], ast.Constant) else []
    if isinstance(node, ast.MatchClass):
        return list(node.kwd_attrs)
    if isinstance(node, ast.ClassDef):
        return class_values(node)
    return []


def class_values(node):
    found = []
    for part in node.body:
        if isinstance(part, (ast.Assign, ast.AnnAssign)):
            targets = part.targets if isinstance(part, ast.Assign) else [part.target]
            names = [target.id for target in targets if isinstance(target, ast.Name)]
            found.extend(name for name in names if name != "__slots__")
            if "__slots__" in names and isinstance(part.value, (ast.Tuple, ast.List)):
                found.extend(item.value for item in part.value.elts if isinstance(item, ast.Constant))
    return found


def check_own_attributes(file):
    """L26: an attribute, or an own method, may not have just any name that values of Python's own have."""
    parents = parents_of(file.tree)
    for node in file.nodes:
        for name in attributes_named(node):
            if name in BUILTIN_NAMES and name not in FREE_ATTRIBUTES:
                file.bad("L26", node.lineno, f"the attribute {name}")
        if isinstance(node, ast.Attribute) and isinstance(node.ctx, ast.Load):
            parent = parents[node]
            is_called = isinstance(parent, ast.Call) and parent.func is node
            if not is_called and node.attr in BUILTIN_NAMES and node.attr not in FREE_ATTRIBUTES:
                file.bad("L26", node.lineno, f"the attribute {node.attr} is read")
        if isinstance(node, ast.ClassDef):
            for part in node.body:
                if isinstance(part, ast.FunctionDef) and part.name in BUILTIN_NAMES and part.name not in FIRST_METHODS:
                    file.bad("L26", part.lineno, f"the method {part.name}")


def check_sets(file):
    """L24: where sets stand, and what is done with those that are kept."""
    parents = parents_of(file.tree)
    for node in file.nodes:
        if not (isinstance(node, (ast.Set, ast.SetComp)) or is_call_of(node, ("set", "frozenset"))):
            continue
        if is_call_of(node, ("frozenset",)) or (is_call_of(node, ("set",)) and node.args and is_lazy(node.args[0])):
            file.bad("L24", node.lineno, "a frozenset, or a set of what is iterated on the spot")
        parent = parents[node]
        while isinstance(parent, ast.BinOp) and isinstance(parent.op, (ast.Sub, ast.BitAnd, ast.BitOr, ast.BitXor)):
            parent = parents[parent]
        if isinstance(parent, ast.Compare) or is_call_of(parent, ("sorted", "len")):
            continue
        if not (isinstance(parent, ast.Assign) and is_good_set(parent, parents)):
            file.bad("L24", node.lineno, "a set where none may stand")


def is_good_set(assignment, parents):
    target = assignment.targets[0]
    function = function_around(assignment, parents)
    if len(assignment.targets) != 1 or not isinstance(target, ast.Name) or function is None:
        return False
    names = [node for node in own_nodes(function) if isinstance(node, ast.Name) and node.id == target.id]
    if [node for node in names if not isinstance(node.ctx, ast.Load)] != [target]:
        return False
    return all(is_good_set_use(node, parents[node], parents) for node in names if node is not target)


def is_good_set_use(use, parent, parents):
    if isinstance(parent, ast.Attribute):
        call = parents[parent]
        return parent.attr in ("add", "discard") and isinstance(parents[call], ast.Expr)
    if isinstance(parent, ast.Compare):
        return True
    return is_call_of(parent, ("len", "sorted")) or (isinstance(parent, (ast.If, ast.While, ast.UnaryOp)))


def check_calls(file):
    """L22, L25: arguments of builtins and of their methods."""
    parents = parents_of(file.tree)
    for node in file.nodes:
        if isinstance(node, ast.Call) and isinstance(node.func, ast.Name):
            name = node.func.id
            keywords = [keyword.arg for keyword in node.keywords]
            allowed = {"sorted": ("key", "reverse"), "min": ("key", "default"), "max": ("key", "default"),
                       "sum": ("start",), "enumerate": ("start",), "zip": ("strict",)}
            if name in LAZY + TAKERS + ("len", "int", "str", "bool", "abs", "min", "max", "set", "isinstance", "ord"):
                if any(keyword not in allowed.get(name, ()) for keyword in keywords):
                    file.bad("L22", node.lineno, f"a keyword of {name}")
            if name == "isinstance":
                check_isinstance(file, node)
            for keyword in node.keywords:
                if keyword.arg == "key" and isinstance(keyword.value, ast.Name):
                    if keyword.value.id in dir(builtins) and keyword.value.id not in KEY_BUILTINS:
                        file.bad("L22", node.lineno, "a builtin as key")
        if isinstance(node, ast.GeneratorExp):
            parent = parents[node]
            names = ("list", "tuple", "dict", "sorted", "sum", "min", "max", "any", "all")
            if not (is_first_of(node, parent, names) or is_join(parent)):
                file.bad("L7", node.lineno, "a generator expression where none may stand")
        if isinstance(node, ast.Compare):
            for op, side in zip(node.ops, node.comparators):
                if isinstance(op, (ast.Is, ast.IsNot)):
                    if not (isinstance(side, ast.Constant) and side.value in (None, True, False)):
                        file.bad("L20", node.lineno, "is beside what is no constant")


def check_isinstance(file, node):
    kinds = node.args[1].elts if isinstance(node.args[1], ast.Tuple) else [node.args[1]]
    for kind in kinds:
        if not isinstance(kind, ast.Name) or (kind.id in dir(builtins) and kind.id not in ISINSTANCE):
            file.bad("L22", node.lineno, "isinstance with a class that it may not have")


def check_lambdas(file):
    """L13: two lambdas with parameters of the same names do not stand on one line."""
    seen = {}
    for node in file.nodes:
        if isinstance(node, ast.Lambda):
            key = (node.lineno, tuple(arg.arg for arg in node.args.args))
            if key in seen:
                file.bad("L13", node.lineno, "two lambdas with the same parameters on a line")
            seen[key] = True


def check_tries(file):
    """L19: Python's own errors are caught only around what the rule lists."""
    for node in file.nodes:
        if not isinstance(node, ast.Try):
            continue
        caught = [handler.type for handler in node.handlers if handler.type is not None]
        names = [name.id for kind in caught for name in ast.walk(kind) if isinstance(name, ast.Name)]
        if any(name in ("ValueError", "LookupError", "IndexError") for name in names):
            file.bad("L19", node.lineno, "a ValueError, LookupError or IndexError is caught; this project does without")
        if "PeristyleError" in names:
            file.bad("L19", node.lineno, "one error class for each kind of failure is caught by name")


def check_targets(file):
    """L6: what is unpacked with a star, or to several targets, is no range, zip .."""
    for node in file.nodes:
        if isinstance(node, ast.Assign) and is_lazy(node.value):
            if any(isinstance(target, (ast.Tuple, ast.List)) for target in node.targets):
                file.bad("L23", node.lineno, "a range, zip .. is unpacked")
        if isinstance(node, ast.Delete):
            for target in node.targets:
                if isinstance(target, ast.Attribute):
                    file.bad("L6", node.lineno, "del of an attribute")
        if isinstance(node, ast.Assert) and isinstance(node.test, ast.Tuple):
            file.bad("L6", node.lineno, "assert of a tuple")
        if isinstance(node, (ast.Yield, ast.YieldFrom)):
            file.bad("L23", node.lineno, "a generator; this project does without")


USES = (check_iterated, check_own_attributes, check_sets, check_calls, check_lambdas, check_tries, check_targets)


def check_classes(trees):
    """L18: attributes and methods of one name; attributes that no class assigns. Trees are by file names."""
    found = []
    classes = {}
    for name, tree in trees.items():
        for node in tree.body:
            if isinstance(node, ast.ClassDef):
                classes[node.name] = (name, node)
    assigned = {node.attr for tree in trees.values() for node in ast.walk(tree)
                if isinstance(node, ast.Attribute) and not isinstance(node.ctx, ast.Load)}
    methods = {part.name for _, node in classes.values() for part in node.body if isinstance(part, ast.FunctionDef)}
    values = {name for _, node in classes.values() for name in class_values(node)}
    for name, node in classes.values():
        both = own_methods(node, classes) & own_attributes(node, classes)
        for word in sorted(both):
            found.append(f"{name}:{node.lineno}: L18: {word} is a method and an attribute of {node.name}")
    for name, tree in trees.items():
        parents = parents_of(tree)
        for node in ast.walk(tree):
            if isinstance(node, ast.Attribute) and isinstance(node.ctx, ast.Load):
                parent = parents[node]
                is_called = isinstance(parent, ast.Call) and parent.func is node
                if not is_called and node.attr not in assigned | values and not node.attr.startswith("__"):
                    if node.attr not in methods or not isinstance(parent, ast.keyword):
                        found.append(f"{name}:{node.lineno}: L18: the attribute {node.attr} is assigned nowhere")
                if is_called and node.attr not in methods | BUILTIN_NAMES | assigned and node.attr != "__init__":
                    found.append(f"{name}:{node.lineno}: L18: no class has the method {node.attr}")
    return found


def family(node, classes):
    """A class and those above it."""
    found = [node]
    for base in node.bases:
        if isinstance(base, ast.Name) and base.id in classes:
            found.extend(family(classes[base.id][1], classes))
    return found


def own_methods(node, classes):
    return {part.name for one in family(node, classes) for part in one.body if isinstance(part, ast.FunctionDef)}


def own_attributes(node, classes):
    return {part.attr for one in family(node, classes) for part in ast.walk(one)
            if isinstance(part, ast.Attribute) and not isinstance(part.ctx, ast.Load)
            and isinstance(part.value, ast.Name) and part.value.id == "self"}


def check_arguments(trees):
    """L22: each call of an own function or class passes what it takes."""
    found = []
    functions, classes = {}, {}
    for name, tree in trees.items():
        module = "peristyle." + name.removesuffix(".py")
        for node in tree.body:
            if isinstance(node, ast.FunctionDef):
                functions[module, node.name] = node.args
            if isinstance(node, ast.ClassDef):
                classes[node.name] = (name, node)
    for name, tree in trees.items():
        module = "peristyle." + name.removesuffix(".py")
        names = {local: (module, local) for where, local in functions if where == module}
        for node in tree.body:
            if isinstance(node, ast.ImportFrom):
                names.update({alias.name: (node.module, alias.name) for alias in node.names})
        for node in ast.walk(tree):
            if isinstance(node, ast.Call) and isinstance(node.func, ast.Name):
                target = functions.get(names.get(node.func.id))
                skip = 0
                if target is None and node.func.id in classes:
                    target, skip = init_of(classes[node.func.id][1], classes), 1
                    if target is None and node.args + node.keywords:
                        found.append(f"{name}:{node.lineno}: L22: {node.func.id} takes nothing")
                if target is not None and not fits(node, target, skip):
                    found.append(f"{name}:{node.lineno}: L22: {ast.unparse(node)} passes other things than it takes")
    return found


def init_of(node, classes):
    for one in family(node, classes):
        for part in one.body:
            if isinstance(part, ast.FunctionDef) and part.name == "__init__":
                return part.args
    return None


def fits(call, args, skip):
    if any(isinstance(arg, ast.Starred) for arg in call.args) or any(keyword.arg is None for keyword in call.keywords):
        return True
    places = [arg.arg for arg in args.posonlyargs + args.args][skip:]
    given = places[:len(call.args)] + [keyword.arg for keyword in call.keywords]
    only = [arg.arg for arg in args.kwonlyargs]
    optional = places[len(places) - len(args.defaults):] if args.defaults else []
    optional = optional + [name for name, default in zip(only, args.kw_defaults) if default is not None]
    if len(call.args) > len(places) and args.vararg is None or len(set(given)) != len(given):
        return False
    if any(name not in places + only for name in given):
        return False
    return all(name in given or name in optional for name in places + only)


def unused_names(file):
    """Imports and private functions that nothing uses."""
    found = []
    used = {node.id for node in file.nodes if isinstance(node, ast.Name) and isinstance(node.ctx, ast.Load)}
    for node in file.tree.body:
        if isinstance(node, ast.ImportFrom):
            found.extend(alias.name for alias in node.names if alias.name not in used)
        if isinstance(node, (ast.FunctionDef, ast.ClassDef)) and node.name.startswith("_") and node.name not in used:
            found.append(node.name)
        if isinstance(node, ast.Assign) and not re.search(rf"\b{node.targets[0].id}\b", file.text.replace(
                ast.get_source_segment(file.text, node), "", 1)) and node.targets[0].id.startswith("_"):
            found.append(node.targets[0].id)
    return found
