"""Whether a step is an instance of its rule ([8.2])."""

from peristyle.rules import RULES, afters_taken
from peristyle.sight import placed, plan_at, sight_of


def takes(plan, step, schemas):
    """Tell whether a right plan allows a step (rule, path, after), of which after is a right plan."""
    rule, path, after = step
    if rule not in RULES:
        return False
    part = plan_at(plan, path)
    if part is None:
        return False
    sight = sight_of(part, {schema[0]: schema for schema in schemas})
    return any([placed(plan, path, new) == after for new in afters_taken(rule, sight)])


def takes_all(plan, steps, schemas):
    """Tell whether a plan allows several steps, one after the other."""
    for step in steps:
        if not takes(plan, step, schemas):
            return False
        plan = step[2]
    return True
