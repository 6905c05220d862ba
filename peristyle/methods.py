"""The methods by which plans may be worked out: which running plans work out a plan ([10.1])."""

from peristyle.facts import safe
from peristyle.joinrules import pair_faults, shifted
from peristyle.plan import joined, parts, used
from peristyle.shape import TRUE
from peristyle.sight import sight_of, with_inputs


def usual(plan, tables):
    """A running plan that works out a plan; tables is a dict from names to schemas."""
    return _usual_of(sight_of(plan, tables))


def _usual_of(sight):
    return ways(sight, [_usual_of(below) for below in sight.inputs])[0]


def ways(sight, inputs):
    """The running plans that work out a plan over running plans of its inputs; the first one is good in general."""
    plan = sight.plan
    word = plan[0]
    if word == "scan":
        return [("scan", plan[1], None)]
    if word == "where" and plan[2][0] == "scan":
        return [("scan", plan[2][1], plan[1])]
    if word == "join":
        return _ways_to_join(sight, inputs)
    own = with_inputs(plan, inputs)
    return [own, ("sorted", *own[1:])] if word == "group" else [own]


def _ways_to_join(sight, inputs):
    _, kind, cond, _, _ = sight.plan
    loop = ("loop", kind, cond, *inputs)
    pairs = pairs_of(cond, sight.inputs[0].width)
    if not pairs or not safe(cond, pair_faults(sight)):
        return [loop]
    lefts = tuple([left for left, _ in pairs])
    rights = tuple([right for _, right in pairs])
    by_keys = (kind, lefts, rights, cond, *inputs)
    return [("hash", *by_keys), ("merge", *by_keys), loop]


def pairs_of(cond, many):
    """The pairs of an expression of some of the first so many columns and one of later ones that have to be equal."""
    found = []
    for part in parts(cond):
        if part[0] == "op" and part[1] == "eq":
            first, second = part[2]
            for left, right in ((first, second), (second, first)):
                if used(left) and used(right) and max(used(left)) < many <= min(used(right)):
                    found.append((left, shifted(right, -many)))
    return found


def rest_of(cond, lefts, rights, many):
    """What is left of a cond for rows with equal keys, or None; the left side has so many columns."""
    equal = [TRUE]
    for left, right in zip(lefts, rights):
        right = shifted(right, many)
        equal.extend([("op", "eq", (left, right)), ("op", "eq", (right, left))])
    rest = [part for part in parts(cond) if part not in equal]
    return joined(rest) if rest else None
