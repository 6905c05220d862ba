"""Binding a query: from its tree to a plan ([5.2] to [5.6])."""

from peristyle.errors import BadKind, BadName
from peristyle.exprbinder import bound_expr, const, is_null
from peristyle.limits import check_limits
from peristyle.operators import ANY
from peristyle.scope import Bound, Cte, Scope, Setting, Source, Spot
from peristyle.selectbinder import Select
from peristyle.sourcebinder import ONE_ROW
from peristyle.value import is_whole

SET_WORDS = {"union": "union", "except": "except", "intersect": "meet"}


def bind(tree, schemas):
    """The plan of a query, and a tuple of the names of its columns."""
    return bind_beside(tree, schemas, {})


def bind_beside(tree, schemas, views):
    """The same, where names stand for queries; views is a dict from them to triples (plan, names, kinds)."""
    tables = {schema[0]: schema for schema in schemas}
    # There is no query around that of a view.
    ctes = {name: Cte(Bound(told[0], list(told[1]), list(told[2])), 0) for name, told in views.items()}
    bound = _bound_query(tree, Setting(tables, ctes, [], _bound_query))
    return bound.plan, tuple(bound.names)


def _bound_query(tree, setting):
    _, ctes, body, order, limit, offset, _ = tree
    inner = _behind_ctes(ctes, setting)
    if not order and limit is None and offset == 0:
        bound = _bound_body(body, inner)
    elif body[0] == "select" and not body[1]:
        select = Select(body, order, inner)
        select.bind()
        bound = select.ordered(order, limit, offset)
    else:
        bound = _topped(_bound_body(body, inner), order, limit, offset, inner)
    check_limits(bound.plan, setting.tables)
    return bound


def _behind_ctes(ctes, setting):
    taken = {}
    for name, query, place in ctes:
        if name in taken:
            raise BadName(place)
        taken[name] = True
        setting = setting.with_cte(name, _bound_query(query, setting))
    return setting


def _topped(bound, order, limit, offset, setting):
    """A bound body with an ORDER BY that sees the names of the outs alone."""
    scope = Scope([Source(None, bound.names, bound.kinds)], closed=True)
    items = []
    for tree, desc, first in order:
        items.append((bound_expr(tree, Spot(scope, setting, {}), ANY)[0], desc, first))
    return Bound(("top", tuple(items), limit, offset, bound.plan), bound.names, bound.kinds)


def _bound_body(tree, setting):
    if tree[0] == "query":
        return _bound_query(tree, setting)
    if tree[0] == "set":
        return _bound_set(tree, setting)
    if tree[0] == "values":
        return _bound_values(tree, setting)
    select = Select(tree, (), setting)
    select.bind()
    return select.told()


def _bound_set(tree, setting):
    _, name, every, left_tree, right_tree, _ = tree
    left = _bound_body(left_tree, setting)
    right = _bound_body(right_tree, setting)
    if left.kinds != right.kinds:
        raise BadKind(right_tree[-1])
    word = SET_WORDS[name]
    if every:
        plan = (word, left.plan, right.plan)
    elif word == "union":
        plan = ("distinct", ("union", left.plan, right.plan))
    else:
        plan = (word, ("distinct", left.plan), ("distinct", right.plan))
    return Bound(plan, left.names, left.kinds)


def _bound_values(tree, setting):
    rows = tree[1]
    for row in rows:
        if len(row) != len(rows[0]):
            raise BadKind(row[0][-1])
    spot = Spot(Scope([]), setting, {})
    kinds = [None] * len(rows[0])
    bound_rows = [[_bound_cell(cell, index, kinds, spot) for index, cell in enumerate(row)] for row in rows]
    kinds = ["int" if kind is None else kind for kind in kinds]
    if all([_is_plain(cell) for row in rows for cell in row]):
        plan = ("rows", tuple(kinds), tuple([tuple([_plain(cell) for cell in row]) for row in rows]))
    else:
        plan = _union_of(bound_rows, kinds)
    return Bound(plan, [f"c{index + 1}" for index in range(len(kinds))], kinds)


def _bound_cell(tree, index, kinds, spot):
    """An expression of VALUES, or None for a null literal, whose kind may be known only at the end."""
    if is_null(tree):
        return None
    expr, kind = bound_expr(tree, spot, ANY if kinds[index] is None else kinds[index])
    kinds[index] = kind
    return expr


def _is_plain(tree):
    if tree[0] == "op" and tree[1] == "neg":
        tree = tree[2][0]
        return tree[0] == "lit" and is_whole(tree[1])
    return tree[0] == "lit"


def _plain(tree):
    return -tree[2][0][1] if tree[0] == "op" else tree[1]


def _union_of(rows, kinds):
    plan = None
    for row in rows:
        exprs = [const(kind, None) if expr is None else expr for expr, kind in zip(row, kinds)]
        select = ("select", tuple(exprs), ONE_ROW)
        plan = select if plan is None else ("union", plan, select)
    return plan
