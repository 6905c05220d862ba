"""Plans as the rules look at them: each with its inputs and with what is known of it."""

from peristyle.facts import known_over, may_be_fault
from peristyle.plan import used
from peristyle.shape import plans_of


class Sight:
    """A plan, the sights of its inputs, and what is known of it."""

    def __init__(self, plan, inputs, tables):
        self.plan = plan
        self.inputs = inputs
        self.tables = tables
        self.known = known_over(plan, [below.known for below in inputs], tables)
        self.width = len(self.known.nulls)

    def has_faults(self):
        """Tell whether a column may be a fault."""
        return any(self.known.faults)

    def is_safe(self, expr):
        """Tell whether an expression is never a fault for the rows of this plan."""
        return are_safe([expr], self.known.faults, self.tables)


def sight_of(plan, tables):
    """The sight of a right plan; tables is a dict from names to schemas."""
    return Sight(plan, [sight_of(below, tables) for below in plans_of(plan)], tables)


def are_safe(exprs, faults, tables):
    """Tell whether expressions are never faults ([7.2]); faults tells which columns may be."""
    return not any([may_be_fault(expr, faults, tables) for expr in exprs])


def columns(indexes):
    """An expression for each index: that column."""
    return tuple([("col", index) for index in indexes])


def used_of(exprs):
    """The rising columns that some expressions use."""
    return sorted(set([index for expr in exprs for index in used(expr)]))


def are_from(exprs, first, end):
    """Tell whether expressions use columns from first on alone, and none from end on."""
    return all([first <= index < end for index in used_of(exprs)])


def with_inputs(plan, inputs):
    """The plan over other inputs."""
    return (*plan[:len(plan) - len(inputs)], *inputs)


def plan_at(plan, path):
    """The plan to which a path leads, or None."""
    for number in path:
        inputs = plans_of(plan)
        if not 0 <= number < len(inputs):
            return None
        plan = inputs[number]
    return plan


def placed(plan, path, new):
    """The plan with another one where a path leads to."""
    if not path:
        return new
    inputs = plans_of(plan)
    inputs[path[0]] = placed(inputs[path[0]], path[1:], new)
    return with_inputs(plan, inputs)
