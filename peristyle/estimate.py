"""How many rows running plans are thought to have, and what running them is thought to cost ([10.4])."""

from peristyle.guess import Guess, kept_of, rounds, share
from peristyle.running import inputs_of, simple
from peristyle.shape import exprs_of, leaves, plans_of


def size(running, stats):
    """The number of rows, as it is thought."""
    return guess_of(running, stats).many


def cost(running, stats):
    """The cost of a running plan and of all below it, as it is thought."""
    return guess_of(running, stats).cost_so_far


def guess_of(running, stats):
    """The guess of a running plan."""
    return guess_over(running, [guess_of(below, stats) for below in inputs_of(running)], stats)


def guess_over(running, inputs, stats):
    """The same, if it is known already what its inputs are thought to be like."""
    work = GUESSES[running[0]]
    many, different, own = work(running, inputs, stats)
    # Whatever is told, a running plan costs more than all below it.
    return Guess(many, different, sum([below.cost_so_far for below in inputs]) + max(own, 0) + 1)


def weight_of(exprs, many, stats):
    """What it costs to work out expressions for so many rows."""
    told = 0
    for expr in exprs:
        told += many + weight_of(exprs_of(expr), many, stats)
        for plan in plans_of(expr):
            told += _runs(plan, many) * guess_of(simple(plan), stats).cost_so_far
    return told


def _runs(plan, many):
    """How often a plan in an expression is run for so many rows."""
    if any([leaf[0] == "outer" and leaf[1] > level for leaf, level in leaves(plan, 0)]):
        return many
    return min(many, 1)


def _scan(running, inputs, stats):
    _, table, cond = running
    many, different = stats.get(table, (0, ()))
    many = max(many, 0)
    if cond is None:
        return many, different, many
    return kept_of(cond, many, Guess(many, different, 0)), different, many + weight_of([cond], many, stats)


def _rows(running, inputs, stats):
    _, kinds, rows = running
    different = [len(set([row[index] for row in rows])) for index in range(len(kinds))]
    return len(rows), different, len(rows)


def _where(running, inputs, stats):
    inner = inputs[0]
    kept = kept_of(running[1], inner.many, inner)
    return kept, inner.different, weight_of([running[1]], inner.many, stats)


def _select(running, inputs, stats):
    inner = inputs[0]
    exprs = running[1]
    return inner.many, [inner.of_expr(expr) for expr in exprs], weight_of(exprs, inner.many, stats)


def _joined(kind, cond, inputs):
    """How many rows a join has, and how many different values its columns have."""
    left, right = inputs
    both = Guess(left.many * right.many, left.different + right.different, 0)
    matches = kept_of(cond, left.many * right.many, both)
    if kind in ("semi", "anti"):
        kept = min(left.many, matches)
        return kept if kind == "semi" else left.many - share(kept, 1, 2), left.different
    least = {"inner": 0, "left": left.many, "right": right.many, "full": left.many + right.many}
    return max(matches, least[kind]), both.different


def _loop(running, inputs, stats):
    _, kind, cond, _, _ = running
    pairs = inputs[0].many * inputs[1].many
    many, different = _joined(kind, cond, inputs)
    return many, different, pairs + weight_of([cond], pairs, stats) + many


def _matches(running, inputs):
    """How many pairs the expressions of a hash or a merge leave."""
    left, right = inputs
    pairs = left.many * right.many
    for expr, other in zip(running[2], running[3]):
        pairs = share(pairs, 1, max(left.of_expr(expr), right.of_expr(other)))
    return pairs


def _by_keys(running, inputs, stats):
    """What all of a hash or a merge costs but for bringing rows with the same keys together."""
    matches = _matches(running, inputs)
    weights = [weight_of(exprs, side.many, stats) for exprs, side in zip(running[2:4], inputs)]
    return sum(weights) + matches + weight_of([running[4]], matches, stats)


def _hash(running, inputs, stats):
    left, right = inputs
    many, different = _joined(running[1], running[4], inputs)
    # The right side is put into a table, which costs more than looking there for the left one.
    return many, different, left.many + 2 * right.many + _by_keys(running, inputs, stats) + many


def _merge(running, inputs, stats):
    many, different = _joined(running[1], running[4], inputs)
    sorting = sum([side.many * rounds(side.many) for side in inputs])
    return many, different, sorting + _by_keys(running, inputs, stats) + many


def _grouped(running, inputs, stats):
    """The rows and the columns of a group, and the cost of working out its expressions."""
    _, group_keys, aggs, _ = running
    inner = inputs[0]
    many = 1
    for expr in group_keys:
        many = min(many * inner.of_expr(expr), inner.many)
    exprs = list(group_keys) + [arg for _, _, arg in aggs if arg is not None]
    different = [inner.of_expr(expr) for expr in group_keys] + [many for _ in aggs]
    return many, different, weight_of(exprs, inner.many, stats) + many


def _group(running, inputs, stats):
    many, different, own = _grouped(running, inputs, stats)
    return many, different, own + 2 * inputs[0].many


def _sorted(running, inputs, stats):
    many, different, own = _grouped(running, inputs, stats)
    return many, different, own + inputs[0].many * rounds(inputs[0].many)


def _distinct(running, inputs, stats):
    inner = inputs[0]
    many = 1
    for told in inner.different:
        many = min(many * told, inner.many)
    return min(many, inner.many), inner.different, 2 * inner.many


def _union(running, inputs, stats):
    left, right = inputs
    different = [one + other for one, other in zip(left.different, right.different)]
    return left.many + right.many, different, 0


def _except(running, inputs, stats):
    left, right = inputs
    return left.many, left.different, left.many + 2 * right.many


def _meet(running, inputs, stats):
    left, right = inputs
    return min(left.many, right.many), left.different, left.many + 2 * right.many


def _window(running, inputs, stats):
    inner = inputs[0]
    funs = running[1]
    # Each function has the rows sorted in its own way.
    own = inner.many * rounds(inner.many) * (len(funs) + 1) + weight_of(exprs_of(running), inner.many, stats)
    return inner.many, inner.different + [inner.many for _ in funs], own


def _top(running, inputs, stats):
    _, order, limit, offset, _ = running
    inner = inputs[0]
    many = max(inner.many - offset, 0)
    own = inner.many * rounds(inner.many) + weight_of([item[0] for item in order], inner.many, stats)
    return many if limit is None else min(many, limit), inner.different, own


GUESSES = {
    "scan": _scan, "rows": _rows, "where": _where, "select": _select, "union": _union, "loop": _loop, "hash": _hash,
    "merge": _merge, "group": _group, "sorted": _sorted, "distinct": _distinct, "except": _except, "meet": _meet,
    "window": _window, "top": _top,
}
