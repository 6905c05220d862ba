"""The rules of steps over joins ([8.3], [8.4]); each tells the plans that may stand for a plan."""

from peristyle.keyfacts import equal_columns, has_key
from peristyle.limits import MOST_WIDE
from peristyle.meaning import has_order
from peristyle.operators import is_strict
from peristyle.plan import is_and, moved
from peristyle.sight import are_from, are_safe, columns


def is_join(plan, *kinds):
    """Tell whether a plan is a join of one of these kinds."""
    return plan[0] == "join" and plan[1] in kinds


def pair_faults(join):
    """Which columns of a row of both sides of a join may be faults."""
    return join.inputs[0].known.faults + join.inputs[1].known.faults


def has_safe_cond(join):
    """Tell whether the cond of a join is never a fault."""
    return are_safe([join.plan[2]], pair_faults(join), join.tables)


def steady(sight):
    """Tell whether a plan never fails."""
    return not sight.known.fails


def shifted(expr, by):
    """The expression with its columns moved by a number."""
    # Widths are bounded, so there are no more columns than these.
    return moved(expr, [index + by for index in range(2 * MOST_WIDE)])


def down(sight):
    """A where goes into the left side of a join."""
    plan = sight.plan
    if plan[0] != "where" or not is_join(plan[2], "inner", "left", "semi", "anti"):
        return []
    join = sight.inputs[0]
    _, kind, cond, left, right = plan[2]
    if not are_from([plan[1]], 0, join.inputs[0].width) or not steady(join.inputs[1]):
        return []
    if not join.is_safe(plan[1]) or not has_safe_cond(join):
        return []
    return [("join", kind, cond, ("where", plan[1], left), right)]


def downright(sight):
    """A where goes into the right side of a join."""
    plan = sight.plan
    if plan[0] != "where" or not is_join(plan[2], "inner", "right"):
        return []
    join = sight.inputs[0]
    _, kind, cond, left, right = plan[2]
    many = join.inputs[0].width
    if not are_from([plan[1]], many, join.width) or not steady(join.inputs[0]):
        return []
    if not join.is_safe(plan[1]) or not has_safe_cond(join):
        return []
    return [("join", kind, cond, left, ("where", shifted(plan[1], -many), right))]


def on(sight):
    """A where becomes a part of the cond of an inner join."""
    plan = sight.plan
    if plan[0] != "where" or not is_join(plan[2], "inner") or not has_safe_cond(sight.inputs[0]):
        return []
    _, kind, cond, left, right = plan[2]
    return [("join", kind, ("op", "and", (cond, plan[1])), left, right)]


def off(sight):
    """A part of the cond of an inner join becomes a where."""
    plan = sight.plan
    if not is_join(plan, "inner") or not is_and(plan[2]):
        return []
    cond, other = plan[2][2]
    if not are_safe([cond], pair_faults(sight), sight.tables):
        return []
    return [("where", other, ("join", "inner", cond, plan[3], plan[4]))]


def _swapped(sight, kind):
    left, right = sight.inputs
    places = [index + right.width for index in range(left.width)] + list(range(right.width))
    return ("select", columns(places), ("join", kind, moved(sight.plan[2], places), right.plan, left.plan))


def swap(sight):
    """The sides of an inner join change places."""
    return [_swapped(sight, "inner")] if is_join(sight.plan, "inner") else []


def swapouter(sight):
    """A left join becomes a right one, or the other way round."""
    if not is_join(sight.plan, "left", "right"):
        return []
    return [_swapped(sight, "right" if sight.plan[1] == "left" else "left")]


def turn(sight):
    """Of three joined plans, the last two are joined first."""
    plan = sight.plan
    if not is_join(plan, "inner") or not is_join(plan[3], "inner"):
        return []
    join, last = sight.inputs
    first = join.inputs[0]
    if not are_from([plan[2]], first.width, join.width + last.width) or not steady(first) or not steady(last):
        return []
    if not has_safe_cond(sight) or not has_safe_cond(join):
        return []
    _, _, cond, left, middle = plan[3]
    return [("join", "inner", cond, left, ("join", "inner", shifted(plan[2], -first.width), middle, plan[4]))]


def turnback(sight):
    """Of three joined plans, the first two are joined first."""
    plan = sight.plan
    if not is_join(plan, "inner") or not is_join(plan[4], "inner"):
        return []
    first, join = sight.inputs
    middle, last = join.inputs
    if not are_from([plan[2]], 0, first.width + middle.width) or not steady(first) or not steady(last):
        return []
    if not has_safe_cond(sight) or not has_safe_cond(join):
        return []
    inner = ("join", "inner", plan[2], plan[3], middle.plan)
    return [("join", "inner", shifted(plan[4][2], first.width), inner, last.plan)]


def _is_null_in(expr, indexes):
    """Tell whether an expression is null if these columns are, by the words of [8.4]."""
    if expr[0] == "col":
        return expr[1] in indexes
    if expr[0] != "op" or not is_strict(expr[1]):
        return False
    return any([_is_null_in(arg, indexes) for arg in expr[2]])


def _is_strict_in(cond, indexes):
    """Tell whether a condition is null or False if these columns are null, by the words of [8.4]."""
    if cond[0] == "op" and cond[1] in ("and", "or"):
        told = [_is_strict_in(arg, indexes) for arg in cond[2]]
        return any(told) if cond[1] == "and" else all(told)
    return _is_null_in(cond, indexes)


def strict(sight):
    """A left join becomes an inner one where no row without a partner is wanted."""
    plan = sight.plan
    if plan[0] != "where" or not is_join(plan[2], "left") or not has_safe_cond(sight.inputs[0]):
        return []
    join = sight.inputs[0]
    if not _is_strict_in(plan[1], list(range(join.inputs[0].width, join.width))):
        return []
    _, _, cond, left, right = plan[2]
    return [("where", plan[1], ("join", "inner", cond, left, right))]


def has_one_partner(join):
    """Tell whether the eq parts of a join have a key of the right side among their right columns."""
    left, right = join.inputs
    equal = [other - left.width for _, other in equal_columns(join.plan[2], left.width)]
    return has_key(right.known.unique, equal)


def drop(sight):
    """A left join goes of which the right columns are not used, where each left row has one partner at most."""
    plan = sight.plan
    if plan[0] != "select" or not is_join(plan[2], "left"):
        return []
    join = sight.inputs[0]
    left, right = join.inputs
    if not are_from(plan[1], 0, left.width) or not steady(right) or has_order(left.plan):
        return []
    if not has_safe_cond(join) or not has_one_partner(join):
        return []
    return [("select", plan[1], left.plan)]


def semi(sight):
    """A semi join becomes an inner one, where each left row has one partner at most."""
    plan = sight.plan
    if not is_join(plan, "semi") or not has_safe_cond(sight) or not has_one_partner(sight):
        return []
    left, right = sight.inputs
    if left.width + right.width > MOST_WIDE:
        return []
    return [("select", columns(list(range(left.width))), ("join", "inner", *plan[2:]))]


JOIN_RULES = {
    "down": down, "downright": downright, "on": on, "off": off, "swap": swap, "swapouter": swapouter, "turn": turn,
    "turnback": turnback, "strict": strict, "drop": drop, "semi": semi,
}
