"""The rule of steps that leaves out columns that a select does not use ([8.5])."""

from peristyle.plan import moved
from peristyle.sight import are_safe, columns, used_of


def prune(sight):
    """A select over a join, a window, a group or a select with fewer columns; one plan for each side of a join."""
    plan = sight.plan
    if plan[0] != "select":
        return []
    inner = sight.inputs[0]
    wanted = used_of(plan[1])
    word = inner.plan[0]
    if word == "join":
        return _pruned_joins(plan[1], inner, wanted)
    if word == "select":
        first = 0
    elif word == "group":
        first = len(inner.plan[1])
    elif word == "window":
        first = inner.inputs[0].width
    else:
        return []
    idle = [index for index in range(first, inner.width) if index not in wanted and _may_go(inner, index - first)]
    if not idle:
        return []
    kept = [index for index in range(inner.width) if index not in idle]
    return [("select", _moved_to(plan[1], kept), _lessened(inner.plan, [index - first for index in kept[first:]]))]


def _may_go(inner, number):
    """Tell whether the agg, the fun or the expression of a number may be left out where it is not used."""
    if inner.plan[0] != "window":
        return True
    _, _, partition, order, _ = inner.plan[1][number]
    below = inner.inputs[0]
    return are_safe([*partition, *[item[0] for item in order]], below.known.faults, below.tables)


def _lessened(plan, numbers):
    """A group, a window or a select with the aggs, funs or expressions of these numbers alone."""
    if plan[0] == "group":
        return ("group", plan[1], tuple([plan[2][number] for number in numbers]), plan[3])
    return (plan[0], tuple([plan[1][number] for number in numbers]), plan[2])


def _moved_to(exprs, kept):
    """The expressions for rows that have nothing but the kept columns."""
    places = {index: place for place, index in enumerate(kept)}
    return tuple([moved(expr, places) for expr in exprs])


def _pruned_joins(exprs, join, wanted):
    left, right = join.inputs
    # The right columns of a semi or an anti join are not told, but the cond may use them.
    wanted = sorted(set(wanted + used_of([join.plan[2]])))
    lefts = [index for index in wanted if index < left.width]
    rights = [index for index in wanted if index >= left.width]
    found = []
    if len(lefts) < left.width:
        kept = lefts + list(range(left.width, left.width + right.width))
        found.append(_over_sides(exprs, join.plan, kept, ("select", columns(lefts), left.plan), right.plan))
    if len(rights) < right.width:
        side = ("select", columns([index - left.width for index in rights]), right.plan)
        found.append(_over_sides(exprs, join.plan, list(range(left.width)) + rights, left.plan, side))
    return found


def _over_sides(exprs, join, kept, left, right):
    """The select over the join of other sides, which have the kept columns."""
    cond = _moved_to([join[2]], kept)[0]
    return ("select", _moved_to(exprs, kept), ("join", join[1], cond, left, right))


PRUNE_RULE = {"prune": prune}
