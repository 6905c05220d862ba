"""Running plans: by which method each plan is worked out ([10.1])."""

from peristyle.shape import plans_of
from peristyle.sight import with_inputs

# How many running plans stand at the end of the tuple of a running plan.
INPUTS_AT_END = {
    "where": 1, "select": 1, "union": 2, "loop": 2, "hash": 2, "merge": 2, "group": 1, "sorted": 1, "distinct": 1,
    "except": 2, "meet": 2, "window": 1, "top": 1,
}


def inputs_of(running):
    """The running plans right below a running plan."""
    many = INPUTS_AT_END.get(running[0], 0)
    return list(running[len(running) - many:])


def plan_of(running):
    """The plan that a running plan works out."""
    word = running[0]
    if word == "scan":
        _, table, cond = running
        return ("scan", table) if cond is None else ("where", cond, ("scan", table))
    inputs = [plan_of(below) for below in inputs_of(running)]
    if word in ("loop", "hash", "merge"):
        return ("join", running[1], running[2 if word == "loop" else 4], *inputs)
    if word == "sorted":
        return ("group", running[1], running[2], *inputs)
    return with_inputs(running, inputs)


def simple(plan):
    """The running plan that works out a right plan by loops, tables of groups and whole scans."""
    inputs = [simple(below) for below in plans_of(plan)]
    if plan[0] == "scan":
        return ("scan", plan[1], None)
    if plan[0] == "join":
        return ("loop", plan[1], plan[2], *inputs)
    return with_inputs(plan, inputs)
