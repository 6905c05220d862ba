"""Which plans can be kept as views ([11.1])."""

from peristyle.shape import exprs_of, has_plans
from peristyle.sight import are_safe, sight_of

KEPT_WORDS = ("scan", "rows", "where", "select", "join", "union", "distinct", "except", "meet", "group")
KEPT_JOINS = ("inner", "semi", "anti")


def is_keepable(plan, tables):
    """Tell whether a right plan can be kept; tables is a dict from names to schemas."""
    sight = sight_of(plan, tables)
    return not sight.known.fails and _are_parts_kept(sight)


def _are_parts_kept(sight):
    plan = sight.plan
    if plan[0] not in KEPT_WORDS or (plan[0] == "join" and plan[1] not in KEPT_JOINS):
        return False
    exprs = exprs_of(plan)
    if any([has_plans(expr) for expr in exprs]):
        return False
    if plan[0] == "select":
        # The fault of a sum may be handed on as it is.
        exprs = [expr for expr in exprs if expr[0] != "col"]
    faults = [told for below in sight.inputs for told in below.known.faults]
    return are_safe(exprs, faults, sight.tables) and all([_are_parts_kept(below) for below in sight.inputs])
