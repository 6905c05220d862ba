"""The rules of steps by their names, and all steps that a plan allows ([8.1] to [8.3])."""

from peristyle.inrules import FURTHER, IN_RULES
from peristyle.joinrules import JOIN_RULES
from peristyle.limits import MOST_NODES, has_room
from peristyle.plan import nodes
from peristyle.prunerule import PRUNE_RULE
from peristyle.sight import placed, sight_of
from peristyle.whererules import WHERE_RULES

MOST_STEPS = 500

RULES = (
    "split", "merge", "true", "select", "inline", "same", "down", "downright", "on", "off", "swap", "swapouter", "turn",
    "turnback", "strict", "unite", "once", "oncewhere", "groupwhere", "prune", "drop", "exists", "notexists", "within",
    "semi", "fold",
)


def found(plan, schemas):
    """The steps (rule, path, after) that a right plan allows; no more than 500 of them."""
    told = []
    whole = nodes(plan)
    waiting = [(sight_of(plan, {schema[0]: schema for schema in schemas}), ())]
    while waiting:
        sight, path = waiting.pop()
        # How many nodes may stand in place of this plan.
        room = MOST_NODES - whole + nodes(sight.plan)
        for rule in RULES:
            for new in afters(rule, sight):
                if len(told) == MOST_STEPS:
                    return told
                if has_room(new, len(path) + 1, room):
                    told.append((rule, path, placed(plan, path, new)))
        waiting.extend([(below, path + (number,)) for number, below in enumerate(sight.inputs)])
    return told


def afters(rule, sight):
    """What may stand, by a rule, in place of a plan: right plans, but for their depth and size."""
    if rule in WHERE_RULES:
        work = WHERE_RULES[rule]
    elif rule in JOIN_RULES:
        work = JOIN_RULES[rule]
    elif rule in IN_RULES:
        work = IN_RULES[rule]
    else:
        work = PRUNE_RULE[rule]
    return work(sight)


def afters_taken(rule, sight):
    """The same, with what is taken beyond the words of the rule."""
    told = afters(rule, sight)
    if rule in FURTHER:
        work = FURTHER[rule]
        told = told + work(sight)
    return told
