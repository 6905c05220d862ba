"""Binding the expressions of a query ([5.2], [5.3], [5.6])."""

from peristyle.errors import BadKind, BadName, TooMuch
from peristyle.operators import ANY, SIGNATURES, kind_of
from peristyle.scope import looked_up
from peristyle.value import kind_of_value


def bound_expr(tree, spot, wanted):
    """A whole expression and its kind, which must be the wanted one unless that is ANY."""
    try:
        told = _bound_as(tree, spot, wanted)
    except (BadName, BadKind, TooMuch):
        # What has a mistake in it is no key, so names before the mistake stay left over.
        spot.scope.refuse_left_over(spot.setting.scopes)
        raise
    spot.scope.refuse_left_over(spot.setting.scopes)
    return told


def is_null(tree):
    """Tell whether a tree is a null literal."""
    return tree[0] == "lit" and tree[1] is None


def const(kind, value):
    """A constant."""
    return ("const", kind, value)


def _bound_as(tree, spot, wanted):
    if is_null(tree):
        kind = "int" if wanted == ANY else wanted
        return const(kind, None), kind
    start = len(spot.scope.left_over)
    bind = BINDERS[tree[0]]
    expr, kind = bind(tree, spot)
    if spot.scope.is_key(expr):
        # The names in a key are not left over.
        del spot.scope.left_over[start:]
    if wanted not in (ANY, kind):
        raise BadKind(tree[-1])
    return expr, kind


class Alike:
    """Expressions that must be of one kind; the null literals among them take it at the end."""

    def __init__(self):
        self.kind = None
        self.exprs = []

    def add(self, tree, spot):
        """Bind one more."""
        if is_null(tree):
            self.exprs.append(None)
            return
        expr, kind = _bound_as(tree, spot, ANY if self.kind is None else self.kind)
        self.kind = kind
        self.exprs.append(expr)

    def told(self):
        """The expressions and their kind."""
        kind = "int" if self.kind is None else self.kind
        return [const(kind, None) if expr is None else expr for expr in self.exprs], kind


def _bound_literal(tree, spot):
    kind = kind_of_value(tree[1])
    return const(kind, tree[1]), kind


def _bound_name(tree, spot):
    return looked_up(tree, spot)


def _bound_operator(tree, spot):
    _, name, args, _ = tree
    wanted = SIGNATURES[name][0]
    if ANY in wanted:
        # Where an operator takes any kind, all its arguments are of one.
        alike = Alike()
        for arg in args:
            alike.add(arg, spot)
        exprs, kind = alike.told()
        return ("op", name, tuple(exprs)), kind_of(name, (kind,) * len(args))
    exprs = [_bound_as(arg, spot, kind)[0] for arg, kind in zip(args, wanted)]
    return ("op", name, tuple(exprs)), kind_of(name, wanted)


def _bound_case(tree, spot):
    _, pairs, other, _ = tree
    conds = []
    values = Alike()
    for cond, value in pairs:
        conds.append(_bound_as(cond, spot, "bool")[0])
        values.add(value, spot)
    values.add(other, spot)
    exprs, kind = values.told()
    return ("case", tuple(zip(conds, exprs)), exprs[-1]), kind


def _bound_query(query, spot):
    bind_query = spot.setting.bind_query
    return bind_query(query, spot.setting.inside(spot.scope))


def _bound_exists(tree, spot):
    return ("exists", _bound_query(tree[1], spot).plan), "bool"


def _bound_scalar(tree, spot):
    inner = _bound_query(tree[1], spot)
    if len(inner.kinds) != 1:
        raise BadKind(tree[-1])
    return ("scalar", inner.plan), inner.kinds[0]


def _bound_in(tree, spot):
    _, side, query, place = tree
    alike = Alike()
    alike.add(side, spot)
    inner = _bound_query(query, spot)
    if len(inner.kinds) != 1 or alike.kind not in (None, inner.kinds[0]):
        raise BadKind(place)
    expr = const(inner.kinds[0], None) if alike.kind is None else alike.exprs[0]
    return ("in", expr, inner.plan), "bool"


def _bound_call(tree, spot):
    if tree[-1] not in spot.calls:
        raise BadKind(tree[-1])
    return spot.calls[tree[-1]]


BINDERS = {
    "lit": _bound_literal,
    "name": _bound_name,
    "op": _bound_operator,
    "case": _bound_case,
    "exists": _bound_exists,
    "scalar": _bound_scalar,
    "in": _bound_in,
    "call": _bound_call,
}
