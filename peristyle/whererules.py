"""The rules of steps over wheres, selects and groups ([8.3]); each tells the plans that may stand for a plan."""

from peristyle.folding import first_folded, folded
from peristyle.meaning import has_order
from peristyle.plan import is_and, put_in
from peristyle.shape import TRUE
from peristyle.sight import are_from, columns


def split(sight):
    """A where by an "and" becomes two."""
    plan = sight.plan
    if plan[0] != "where" or not is_and(plan[1]):
        return []
    first, second = plan[1][2]
    return [("where", second, ("where", first, plan[2]))] if sight.inputs[0].is_safe(first) else []


def merge(sight):
    """Two wheres become one."""
    plan = sight.plan
    if plan[0] != "where" or plan[2][0] != "where":
        return []
    inner = plan[2]
    is_safe = sight.inputs[0].inputs[0].is_safe(inner[1])
    return [("where", ("op", "and", (inner[1], plan[1])), inner[2])] if is_safe else []


def drop_true(sight):
    """A where by True goes."""
    plan = sight.plan
    if plan[0] != "where" or plan[1] != TRUE or has_order(plan[2]):
        return []
    return [plan[2]]


def below_select(sight):
    """A where goes below a select."""
    plan = sight.plan
    if plan[0] != "where" or plan[2][0] != "select":
        return []
    _, exprs, below = plan[2]
    return [("select", exprs, ("where", put_in(plan[1], exprs), below))]


def inline(sight):
    """Two selects become one."""
    plan = sight.plan
    if plan[0] != "select" or plan[2][0] != "select":
        return []
    _, exprs, below = plan[2]
    return [("select", tuple([put_in(expr, exprs) for expr in plan[1]]), below)]


def drop_same(sight):
    """A select of just all columns goes."""
    plan = sight.plan
    if plan[0] != "select" or plan[1] != columns(list(range(sight.inputs[0].width))):
        return []
    return [plan[2]]


def unite(sight):
    """A where goes into both sides of a union."""
    plan = sight.plan
    if plan[0] != "where" or plan[2][0] != "union":
        return []
    union = sight.inputs[0]
    if not union.is_safe(plan[1]) and any([side.known.fails for side in union.inputs]):
        return []
    _, left, right = plan[2]
    return [("union", ("where", plan[1], left), ("where", plan[1], right))]


def once(sight):
    """A distinct of rows that are different anyhow goes."""
    if sight.plan[0] != "distinct":
        return []
    inner = sight.inputs[0]
    if not inner.known.unique or inner.has_faults() or has_order(inner.plan):
        return []
    return [inner.plan]


def below_distinct(sight):
    """A where goes below a distinct."""
    plan = sight.plan
    if plan[0] != "where" or plan[2][0] != "distinct" or sight.inputs[0].inputs[0].has_faults():
        return []
    return [("distinct", ("where", plan[1], plan[2][1]))]


def below_group(sight):
    """A where by keys goes below a group."""
    plan = sight.plan
    if plan[0] != "where" or plan[2][0] != "group":
        return []
    group = sight.inputs[0]
    _, group_keys, aggs, below = plan[2]
    if not group_keys or not are_from([plan[1]], 0, len(group_keys)) or not group.is_safe(plan[1]):
        return []
    if not all([group.inputs[0].is_safe(expr) for expr in group_keys]):
        return []
    # Nothing but keys is used, so nothing is put in for the aggs.
    return [("group", group_keys, aggs, ("where", put_in(plan[1], group_keys), below))]


def fold(sight):
    """An expression becomes simpler, at one place."""
    plan = sight.plan
    if plan[0] == "where":
        return [("where", cond, plan[2]) for cond in folded(plan[1])]
    if plan[0] != "select":
        return []
    found = []
    for index, expr in enumerate(plan[1]):
        found.extend([_with_expr(plan, index, told) for told in folded(expr)])
    return found


def _with_expr(plan, index, expr):
    return ("select", (*plan[1][:index], expr, *plan[1][index + 1:]), plan[2])


def fold_first(sight):
    """One of the plans that fold tells, or none."""
    plan = sight.plan
    if plan[0] == "where":
        cond = first_folded(plan[1])
        return [] if cond is None else [("where", cond, plan[2])]
    if plan[0] == "select":
        for index, expr in enumerate(plan[1]):
            told = first_folded(expr)
            if told is not None:
                return [_with_expr(plan, index, told)]
    return []


WHERE_RULES = {
    "split": split, "merge": merge, "true": drop_true, "select": below_select, "inline": inline, "same": drop_same,
    "unite": unite, "once": once, "oncewhere": below_distinct, "groupwhere": below_group, "fold": fold,
}
