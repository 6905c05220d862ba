"""Steps that make a plan cheaper in general: simpler expressions, wheres further inside, fewer columns ([9.4])."""

from peristyle.plan import nodes, parts
from peristyle.rules import afters, afters_taken
from peristyle.sight import sight_of
from peristyle.whererules import fold_first

# Wheres may go into these.
ENTERED = ("join", "select", "union", "distinct", "group")
QUERIES = ("exists", "in")
# How many nodes a where may bring along below a select.
MOST_MORE = 40


def tidy(trail):
    """Take all steps that are good in general."""
    _improve(trail, (), IN_GENERAL)
    _improve(trail, (), AT_THE_END)


def neaten(trail, path):
    """Put selects together that a step at a path has brought one upon the other."""
    for place in (path, path[:-1]):
        while _go_one(trail, place, FOR_SELECTS):
            pass


def _improve(trail, path, wanted):
    """Take the wanted steps from a path on; what changed further inside may allow more of them here."""
    is_new = True
    while is_new:
        while _go_one(trail, path, wanted):
            pass
        for number in range(len(trail.sight_at(path).inputs)):
            _improve(trail, path + (number,), wanted)
        is_new = _go_one(trail, path, wanted)


def _go_one(trail, path, wanted):
    for rule, is_wanted in wanted:
        sight = trail.sight_at(path)
        # Of all simpler expressions the first one is enough.
        found = fold_first(sight) if rule == "fold" else afters_taken(rule, sight)
        for new in found:
            if is_wanted(sight, new) and trail.go(rule, path, new):
                return True
    return False


def _always(sight, new):
    return True


def _is_no_larger(sight, new):
    return nodes(new) <= nodes(sight.plan)


def _is_little_larger(sight, new):
    return nodes(new) <= nodes(sight.plan) + MOST_MORE


def _is_of_use_apart(sight, new):
    """Tell whether the parts of a where may go somewhere."""
    if sight.inputs[0].plan[0] in ENTERED:
        return True
    return any([_is_query(part) for part in parts(sight.plan[1])])


def _is_query(cond):
    return cond[0] in QUERIES or (cond[0] == "op" and cond[1] == "not" and cond[2][0][0] in QUERIES)


def _has_safe_part(sight, new):
    """Tell whether the cond of a join stays safe, so that it may still be a join by keys."""
    return sight.inputs[0].is_safe(sight.plan[1])


def _goes_inside(sight, new):
    """Tell whether a part of the cond of a join goes into a side at once."""
    below = sight_of(new, sight.tables)
    return len(afters("down", below)) + len(afters("downright", below)) > 0


def _leaves_work(sight, new):
    """Tell whether columns are left out that some plan works out, not just ones that it hands on."""
    if new[2][0] != "join":
        return True
    for old, side in zip(sight.inputs[0].inputs, new[2][3:]):
        if side != old.plan and old.plan[0] != "select":
            return False
    return True


IN_GENERAL = (
    ("fold", _always), ("true", _always), ("same", _always), ("once", _always), ("inline", _is_no_larger),
    ("drop", _always), ("prune", _leaves_work), ("split", _is_of_use_apart), ("exists", _always),
    ("notexists", _always), ("within", _always), ("strict", _always), ("select", _is_little_larger), ("down", _always),
    ("downright", _always), ("unite", _is_little_larger), ("oncewhere", _always), ("groupwhere", _is_little_larger),
    ("on", _has_safe_part), ("off", _goes_inside),
)
FOR_SELECTS = (("same", _always), ("inline", _is_no_larger))
AT_THE_END = (("merge", _always),)
