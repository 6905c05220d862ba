"""What is known of a plan, whatever its tables have (chapter 7)."""

from peristyle.calls import NUMBERINGS
from peristyle.keyfacts import MOST_JOINED, join_keys, select_keys, without_twins
from peristyle.operators import is_strict, may_fault
from peristyle.shape import plans_of


def facts(plan, schemas):
    """Which columns may be null, which may be a fault, whether the plan may fail, and its keys."""
    told = _known_in_full(plan, {schema[0]: schema for schema in schemas})
    return tuple(told.nulls), tuple(told.faults), told.fails, list(told.unique)


def safe(expr, faults):
    """Tell whether an expression is never a fault; False if there are plans or outers in it."""
    word = expr[0]
    if word == "col":
        return not faults[expr[1]]
    if word == "op":
        return not may_fault(expr[1]) and all([safe(arg, faults) for arg in expr[2]])
    if word == "case":
        return all([safe(part, faults) for pair in expr[1] for part in pair]) and safe(expr[2], faults)
    return word == "const"


class Known:
    """What is known of a plan; unique are its keys."""

    def __init__(self, nulls, faults, fails, keys_told):
        self.nulls = nulls
        self.faults = faults
        self.fails = fails
        self.unique = keys_told


def _never(many):
    return [False] * many


def _known_in_full(plan, tables):
    """What is known of a right plan, with all keys of joins."""
    inputs = [_known_in_full(below, tables) for below in plans_of(plan)]
    return _join(plan, inputs, tables, None) if plan[0] == "join" else known_over(plan, inputs, tables)


def known(plan, tables):
    """What is known of a right plan; tables is a dict from names to schemas."""
    return known_over(plan, [known(below, tables) for below in plans_of(plan)], tables)


def known_over(plan, inputs, tables):
    """The same, if it is known already what its inputs are like.

    Of very many keys of joins only those are told in which no other one is; no more is needed of them.
    """
    if plan[0] == "join":
        return _join(plan, inputs, tables, MOST_JOINED)
    tell = TELLERS[plan[0]]
    return tell(plan, inputs, tables)


def _scan(plan, inputs, tables):
    _, columns, table_keys = tables[plan[1]]
    return Known([nullable for _, _, nullable in columns], _never(len(columns)), False, list(table_keys))


def _rows(plan, inputs, tables):
    _, kinds, rows = plan
    nulls = [any([row[index] is None for row in rows]) for index in range(len(kinds))]
    return Known(nulls, _never(len(kinds)), False, [])


def _where(plan, inputs, tables):
    inner = inputs[0]
    fails = inner.fails or may_be_fault(plan[1], inner.faults, tables)
    return Known(inner.nulls, inner.faults, fails, inner.unique)


def _select(plan, inputs, tables):
    inner = inputs[0]
    nulls = [_may_be_null(expr, inner.nulls) for expr in plan[1]]
    faults = [may_be_fault(expr, inner.faults, tables) for expr in plan[1]]
    return Known(nulls, faults, inner.fails, select_keys(plan[1], inner.unique))


def _join(plan, inputs, tables, most_keys):
    _, kind, cond, _, _ = plan
    left, right = inputs
    fails = left.fails or right.fails or may_be_fault(cond, left.faults + right.faults, tables)
    told = join_keys(kind, cond, left.unique, right.unique, len(left.nulls), most_keys)
    if kind in ("semi", "anti"):
        return Known(left.nulls, left.faults, fails, told)
    nulls = left.nulls + right.nulls
    if kind in ("right", "full"):
        nulls = [True] * len(left.nulls) + nulls[len(left.nulls):]
    if kind in ("left", "full"):
        nulls = nulls[:len(left.nulls)] + [True] * len(right.nulls)
    return Known(nulls, left.faults + right.faults, fails, told)


def _group(plan, inputs, tables):
    _, group_keys, aggs, _ = plan
    inner = inputs[0]
    nulls = [_may_be_null(expr, inner.nulls) for expr in group_keys]
    faults = [may_be_fault(expr, inner.faults, tables) for expr in group_keys]
    fails = inner.fails or any(faults)
    nulls = nulls + [name not in ("rows", "count") for name, _, _ in aggs]
    told = [_may_call_be_fault(name, arg, inner.faults, tables) for name, _, arg in aggs]
    return Known(nulls, _never(len(group_keys)) + told, fails, [tuple(range(len(group_keys)))])


def _distinct(plan, inputs, tables):
    inner = inputs[0]
    every = tuple(range(len(inner.nulls)))
    return _without_faults(inner, inner.fails or any(inner.faults), without_twins([every] + inner.unique))


def _without_faults(inner, fails, told):
    # These plans fail if a fault stands in a row of theirs.
    return Known(inner.nulls, _never(len(inner.nulls)), fails, told)


def _union(plan, inputs, tables):
    left, right = inputs
    nulls = [one or other for one, other in zip(left.nulls, right.nulls)]
    faults = [one or other for one, other in zip(left.faults, right.faults)]
    return Known(nulls, faults, left.fails or right.fails, [])


def _divided(plan, inputs, tables):
    left, right = inputs
    return _without_faults(left, left.fails or right.fails or any(left.faults + right.faults), left.unique)


def _window(plan, inputs, tables):
    inner = inputs[0]
    fails = inner.fails or any(inner.faults)
    nulls = list(inner.nulls)
    faults = _never(len(inner.nulls))
    for name, arg, partition, order, _ in plan[1]:
        sorting = list(partition) + [item[0] for item in order]
        fails = fails or any([may_be_fault(expr, inner.faults, tables) for expr in sorting])
        nulls.append(name not in ("rows", "count"))
        faults.append(_may_call_be_fault(name, arg, inner.faults, tables))
    return Known(nulls, faults, fails, inner.unique)


def _top(plan, inputs, tables):
    inner = inputs[0]
    sorting = [item[0] for item in plan[1]]
    fails = inner.fails or any(inner.faults) or any([may_be_fault(expr, inner.faults, tables) for expr in sorting])
    return _without_faults(inner, fails, inner.unique)


def _may_call_be_fault(name, arg, faults, tables):
    if name == "rows" or name in NUMBERINGS:
        return False
    return name == "sum" or may_be_fault(arg, faults, tables)


def may_be_fault(expr, faults, tables):
    """Tell whether an expression, perhaps with plans in it, may be a fault by the list of [7.2]."""
    word = expr[0]
    if word == "col":
        return faults[expr[1]]
    if word == "op":
        return may_fault(expr[1]) or any([may_be_fault(arg, faults, tables) for arg in expr[2]])
    if word == "case":
        exprs = [part for pair in expr[1] for part in pair] + [expr[2]]
        return any([may_be_fault(part, faults, tables) for part in exprs])
    if word in ("const", "outer"):
        # Whatever stands in the rows of the queries around, faults too.
        return word == "outer"
    inner = known(expr[-1], tables)
    if inner.fails or word == "exists":
        return inner.fails
    if word == "scalar":
        return inner.faults[0] or () not in inner.unique
    return inner.faults[0] or may_be_fault(expr[1], faults, tables)


def _may_be_null(expr, nulls):
    word = expr[0]
    if word == "col":
        return nulls[expr[1]]
    if word == "const":
        return expr[2] is None
    if word == "case":
        return any([_may_be_null(value, nulls) for _, value in expr[1]]) or _may_be_null(expr[2], nulls)
    return word != "exists" if word != "op" else _may_operator_be_null(expr, nulls)


def _may_operator_be_null(expr, nulls):
    _, name, args = expr
    if name in ("same", "isnull"):
        return False
    if name == "coalesce":
        return all([_may_be_null(arg, nulls) for arg in args])
    if is_strict(name) or name in ("and", "or"):
        return any([_may_be_null(arg, nulls) for arg in args])
    return True


TELLERS = {
    "scan": _scan, "rows": _rows, "where": _where, "select": _select, "group": _group,
    "distinct": _distinct, "union": _union, "except": _divided, "meet": _divided, "window": _window, "top": _top,
}
