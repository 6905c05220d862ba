"""Simpler expressions ([8.7])."""

from peristyle.operators import kind_of, worked
from peristyle.shape import FALSE, TRUE, exprs_of, plans_of, rebuilt
from peristyle.value import is_fault


def folded(expr):
    """The expressions that are simpler at one place, each of them once; plans in it stay as they are."""
    found = simpler(expr)
    below = exprs_of(expr)
    for index, part in enumerate(below):
        for told in folded(part):
            found.append(rebuilt(expr, [*below[:index], told, *below[index + 1:]], plans_of(expr)))
    return _each_once(found)


def first_folded(expr):
    """One of these expressions, or None."""
    found = simpler(expr)
    if found:
        return found[0]
    below = exprs_of(expr)
    for index, part in enumerate(below):
        told = first_folded(part)
        if told is not None:
            return rebuilt(expr, [*below[:index], told, *below[index + 1:]], plans_of(expr))
    return None


def simpler(expr):
    """The simpler expressions that an expression itself becomes."""
    if expr[0] == "case":
        return _simpler_case(expr)
    if expr[0] != "op":
        return []
    _, name, args = expr
    found = []
    if name == "and":
        found = _decided(args, TRUE, FALSE)
    elif name == "or":
        found = _decided(args, FALSE, TRUE)
    elif name == "not" and args[0][0] == "op" and args[0][1] == "not":
        found = [args[0][2][0]]
    if all([arg[0] == "const" for arg in args]):
        value = worked(name, tuple([arg[2] for arg in args]))
        if not is_fault(value):
            found.append(("const", kind_of(name, tuple([arg[1] for arg in args])), value))
    return _each_once(found)


def _decided(args, idle, deciding):
    """What an "and" or an "or" becomes by a const that changes nothing, and by one that decides."""
    first, second = args
    found = []
    if first == idle:
        found.append(second)
    if second == idle:
        found.append(first)
    if deciding in args:
        found.append(deciding)
    return found


def _simpler_case(expr):
    _, pairs, other = expr
    cond, value = pairs[0]
    if cond[0] != "const":
        return []
    if cond[2] is True:
        return [value]
    return [("case", pairs[1:], other) if len(pairs) > 1 else other]


def _each_once(exprs):
    found = []
    for expr in exprs:
        if expr not in found:
            found.append(expr)
    return found
