"""The rules of steps that make joins of wheres by nested queries ([8.6])."""

from peristyle.facts import known
from peristyle.joinrules import shifted, steady
from peristyle.shape import TRUE, exprs_of, has_plans, leaves, rebuilt
from peristyle.sight import are_safe


def exists(sight):
    """A where by "exists" becomes a semi join."""
    query = _query_in(sight.plan)
    return [] if query is None else _joined(sight, "semi", query)


def notexists(sight):
    """A where by a denied "exists" becomes an anti join."""
    query = _denied_in(sight.plan)
    return [] if query is None else _joined(sight, "anti", query)


def exists_of_select(sight):
    """What exists tells, if the query selects something: which columns its rows have does not matter."""
    query = _query_in(sight.plan)
    return [] if query is None or query[0] != "select" else _joined(sight, "semi", _without_selects(query))


def notexists_of_select(sight):
    """The same of notexists."""
    query = _denied_in(sight.plan)
    return [] if query is None or query[0] != "select" else _joined(sight, "anti", _without_selects(query))


def _query_in(plan):
    """The plan of a where by "exists", or None."""
    return plan[1][1] if plan[0] == "where" and plan[1][0] == "exists" else None


def _denied_in(plan):
    """The plan of a where by a denied "exists", or None."""
    if plan[0] != "where" or plan[1][0] != "op" or plan[1][1] != "not" or plan[1][2][0][0] != "exists":
        return None
    return plan[1][2][0][1]


def _without_selects(query):
    while query[0] == "select":
        query = query[2]
    return query


def _joined(sight, kind, query):
    outer = sight.inputs[0]
    cond, inner = _taken_apart(query)
    if not _is_plain(cond) or not _is_closed(inner) or not steady(outer):
        return []
    told = known(inner, sight.tables)
    cond = _for_both(cond, outer.width)
    if told.fails or not are_safe([cond], outer.known.faults + told.faults, sight.tables):
        return []
    return [("join", kind, cond, outer.plan, inner)]


def within(sight):
    """A where by "in" becomes a semi join."""
    plan = sight.plan
    if plan[0] != "where" or plan[1][0] != "in" or plan[1][2][0] != "select" or not steady(sight.inputs[0]):
        return []
    outer = sight.inputs[0]
    _, expr, query = plan[1]
    exprs, below = query[1], query[2]
    cond, inner = _taken_apart(below)
    if not _is_plain(cond) or not _is_closed(inner) or not _is_alone(exprs[0]):
        return []
    told = known(inner, sight.tables)
    faults = outer.known.faults + told.faults
    column = shifted(exprs[0], outer.width)
    equal = ("op", "eq", (expr, column))
    inner_cond = _for_both(cond, outer.width)
    if told.fails or not are_safe([inner_cond, equal], faults, sight.tables):
        return []
    conds = [("op", "and", (inner_cond, equal))]
    if below[0] != "where":
        # Without a where, the table of the rules and its paragraph read a little differently.
        conds.append(equal)
    return [("join", "semi", cond, outer.plan, inner) for cond in conds]


def _taken_apart(query):
    """The cond of a where and the plan below it; True and the plan itself if it is no where."""
    return (query[1], query[2]) if query[0] == "where" else (TRUE, query)


def _is_plain(cond):
    """Tell whether a condition has no plans in it, and outers of the first level alone."""
    return not has_plans(cond) and all([leaf[0] == "col" or leaf[1] == 1 for leaf, _ in leaves(cond, 0)])


def _is_alone(expr):
    """Tell whether an expression has neither plans nor outers in it."""
    return not has_plans(expr) and all([leaf[0] == "col" for leaf, _ in leaves(expr, 0)])


def _is_closed(plan):
    """Tell whether a plan has no outer at all in it."""
    return all([leaf[0] == "col" for leaf, _ in leaves(plan, 0)])


def _for_both(cond, many):
    """A plain condition of an inner row, for the row of the outer one and, behind it, the inner one."""
    if cond[0] == "outer":
        return ("col", cond[2])
    if cond[0] == "col":
        return ("col", cond[1] + many)
    return rebuilt(cond, [_for_both(part, many) for part in exprs_of(cond)], [])


IN_RULES = {"exists": exists, "notexists": notexists, "within": within}
# What the checker takes beyond the words of the rules; it keeps the answer for the same reasons.
FURTHER = {"exists": exists_of_select, "notexists": notexists_of_select}
