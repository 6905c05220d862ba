"""The rules of steps by their names, and all steps that a plan allows ([8.1] to [8.3])."""

from peristyle.inrules import exists, notexists, within
from peristyle.joinrules import down, downright, drop, off, on, semi, strict, swap, swapouter, turn, turnback
from peristyle.limits import MOST_NODES, has_room
from peristyle.plan import nodes
from peristyle.prunerule import prune
from peristyle.sight import placed, sight_of
from peristyle.whererules import (
    below_distinct, below_group, below_select, drop_same, drop_true, fold, inline, merge, once, split, unite,
)

MOST_STEPS = 500

RULES = {
    "split": split, "merge": merge, "true": drop_true, "select": below_select, "inline": inline, "same": drop_same,
    "down": down, "downright": downright, "on": on, "off": off, "swap": swap, "swapouter": swapouter, "turn": turn,
    "turnback": turnback, "strict": strict, "unite": unite, "once": once, "oncewhere": below_distinct,
    "groupwhere": below_group, "prune": prune, "drop": drop, "exists": exists, "notexists": notexists,
    "within": within, "semi": semi, "fold": fold,
}


def found(plan, schemas):
    """The steps (rule, path, after) that a right plan allows; no more than 500 of them."""
    told = []
    whole = nodes(plan)
    waiting = [(sight_of(plan, {schema[0]: schema for schema in schemas}), ())]
    while waiting:
        sight, path = waiting.pop()
        # How many nodes may stand in place of this plan.
        room = MOST_NODES - whole + nodes(sight.plan)
        for rule in RULES:
            for new in afters(rule, sight):
                if len(told) == MOST_STEPS:
                    return told
                if has_room(new, len(path) + 1, room):
                    told.append((rule, path, placed(plan, path, new)))
        waiting.extend([(below, path + (number,)) for number, below in enumerate(sight.inputs)])
    return told


def afters(rule, sight):
    """What may stand, by a rule, in place of a plan: right plans, but for their depth and size."""
    work = RULES[rule]
    return work(sight)
