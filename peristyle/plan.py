"""Plans and expressions: their kinds, their parts, and what is put into them ([5.1])."""

from peristyle.limits import check_limits
from peristyle.plancheck import PlanCheck
from peristyle.shape import TRUE, exprs_of, leaves, plans_of, put_in_node
from peristyle.survey import survey


def kinds(plan, schemas):
    """The kinds of the columns of a plan; NoSuch, TooMuch or BadKind(-1) if it is not right."""
    tables = {schema[0]: schema for schema in schemas}
    if isinstance(plan, tuple):
        survey(plan, tables)
    told = PlanCheck(tables).plan(plan, [])
    check_limits(plan, tables)
    return told


def nodes(plan):
    """The number of plans and expressions that a right plan is made of."""
    many = 0
    waiting = [plan]
    while waiting:
        node = waiting.pop()
        many += 1
        waiting.extend(exprs_of(node) + plans_of(node))
    return many


def used(expr):
    """The rising columns of its own row that an expression uses."""
    found = {}
    for leaf, level in leaves(expr, 0):
        if leaf[0] == "col" and level == 0 or leaf[0] == "outer" and leaf[1] == level:
            found[leaf[-1]] = True
    return tuple(sorted(found))


def put_in(expr, exprs):
    """The expression with an expression for each column of its own row."""
    return put_in_node(expr, 0, lambda index: exprs[index])


def moved(expr, places):
    """The expression with a column for each column of its own row."""
    return put_in_node(expr, 0, lambda index: ("col", places[index]))


def is_and(cond):
    """Tell whether a condition is an "and"."""
    return cond[0] == "op" and cond[1] == "and"


def parts(cond):
    """The parts of an "and", from the left; of another condition itself."""
    found = []
    waiting = [cond]
    while waiting:
        part = waiting.pop()
        if is_and(part):
            waiting.extend([part[2][1], part[2][0]])
        else:
            found.append(part)
    return found


def joined(conds):
    """The "and" of conditions, from the left."""
    if not conds:
        return TRUE
    told = conds[0]
    for cond in conds[1:]:
        told = ("op", "and", (told, cond))
    return told
