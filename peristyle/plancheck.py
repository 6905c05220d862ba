"""Whether a plan is right, but for its bounds, and the kinds of its columns ([5.1])."""

from peristyle.calls import AGGS, EDGES, NEIGHBOURS, NUMBERINGS
from peristyle.errors import BadKind
from peristyle.operators import ANY, kind_of
from peristyle.value import KINDS, is_value, is_whole

MOST_ROWS = 2000
JOIN_KINDS = ("inner", "left", "right", "full", "semi", "anti")
# How many parts the tuple of a plan or an expression has.
PLAN_LENGTHS = {
    "scan": 2, "rows": 3, "where": 3, "select": 3, "join": 5, "group": 4, "distinct": 2, "union": 3, "except": 3,
    "meet": 3, "window": 3, "top": 5,
}
EXPR_LENGTHS = {"col": 2, "outer": 3, "const": 3, "op": 3, "case": 3, "scalar": 2, "exists": 2, "in": 3}


def need(holds):
    """Refuse the plan unless something holds."""
    if not holds:
        raise BadKind(-1)


class PlanCheck:
    """Tells kinds of plans and expressions that may be anything; BadKind(-1) if they are not right.

    Around are the kinds of the rows of the queries around, the next one first.
    """

    def __init__(self, tables):
        self.tables = tables

    def plan(self, plan, around):
        """The kinds of the columns of a plan."""
        word = _plan_word(plan)
        if word == "scan":
            need(isinstance(plan[1], str) and plan[1] in self.tables)
            return tuple([kind for _, kind, _ in self.tables[plan[1]][1]])
        if word == "rows":
            return _rows_kinds(plan)
        if word in ("union", "except", "meet"):
            left = self.plan(plan[1], around)
            need(left == self.plan(plan[2], around))
            return left
        if word == "join":
            return self.join(plan, around)
        row = self.plan(plan[-1], around)
        if word == "where":
            need(self.expr(plan[1], row, around) == "bool")
            return row
        if word == "select":
            return self.exprs(plan[1], row, around)
        return row if word == "distinct" else self.of_several(plan, row, around)

    def of_several(self, plan, row, around):
        """The kinds of a group, window or top over rows of these kinds."""
        word = plan[0]
        if word == "group":
            need(isinstance(plan[2], tuple))
            return self.exprs(plan[1], row, around) + tuple([self.agg(agg, row, around) for agg in plan[2]])
        if word == "window":
            need(isinstance(plan[1], tuple))
            return row + tuple([self.fun(fun, row, around) for fun in plan[1]])
        _, order, limit, offset, _ = plan
        self.order(order, row, around)
        need((limit is None or _is_count(limit)) and _is_count(offset))
        return row

    def join(self, plan, around):
        """The kinds of a join."""
        _, kind, cond, left_plan, right_plan = plan
        left = self.plan(left_plan, around)
        right = self.plan(right_plan, around)
        need(isinstance(kind, str) and kind in JOIN_KINDS)
        need(self.expr(cond, left + right, around) == "bool")
        return left if kind in ("semi", "anti") else left + right

    def agg(self, agg, row, around):
        """The kind of an agg."""
        name, distinct, arg = _parts(agg, 3)
        need(_is_agg(name) and isinstance(distinct, bool) and not (distinct and name == "rows"))
        return self.called(name, arg, row, around)

    def called(self, name, arg, row, around):
        """The kind of an agg or the function of a window with an argument, perhaps None."""
        if name == "rows" or name in NUMBERINGS:
            need(arg is None)
            return "int"
        need(_is_agg(name) or name in NEIGHBOURS)
        kind = self.expr(arg, row, around)
        need(AGGS.get(name, ANY) in (ANY, kind))
        return "int" if name == "count" else kind

    def fun(self, fun, row, around):
        """The kind of the function of a window."""
        name, arg, partition, order, frame = _parts(fun, 5)
        kind = self.called(name, arg, row, around)
        self.exprs(partition, row, around)
        self.order(order, row, around)
        if frame is not None:
            need(_is_agg(name))
            first, second = _parts(frame, 2)
            need(_is_edge(first) and _is_edge(second))
        return kind

    def order(self, items, row, around):
        """Refuse what is no order."""
        need(isinstance(items, tuple))
        for item in items:
            expr, desc, nullsfirst = _parts(item, 3)
            need(isinstance(desc, bool) and isinstance(nullsfirst, bool))
            self.expr(expr, row, around)

    def exprs(self, exprs, row, around):
        """The kinds of a tuple of expressions."""
        need(isinstance(exprs, tuple))
        return tuple([self.expr(expr, row, around) for expr in exprs])

    def expr(self, expr, row, around):
        """The kind of an expression for a row of these kinds."""
        word = _expr_word(expr)
        if word == "col":
            return _kind_at(row, expr[1])
        if word == "outer":
            need(is_whole(expr[1]) and 1 <= expr[1] <= len(around))
            return _kind_at(around[expr[1] - 1], expr[2])
        if word == "const":
            need(isinstance(expr[1], str) and expr[1] in KINDS and is_value(expr[2], expr[1]))
            return expr[1]
        if word == "op":
            need(isinstance(expr[1], str))
            kind = kind_of(expr[1], self.exprs(expr[2], row, around))
            need(kind is not None)
            return kind
        if word == "case":
            return self.case(expr, row, around)
        inner = self.plan(expr[-1], [row] + around)
        if word == "exists":
            return "bool"
        need(len(inner) == 1)
        if word == "scalar":
            return inner[0]
        need(self.expr(expr[1], row, around) == inner[0])
        return "bool"

    def case(self, expr, row, around):
        """The kind of a case."""
        _, pairs, other = expr
        kind = self.expr(other, row, around)
        need(isinstance(pairs, tuple) and len(pairs) > 0)
        for pair in pairs:
            cond, value = _parts(pair, 2)
            need(self.expr(cond, row, around) == "bool")
            need(self.expr(value, row, around) == kind)
        return kind


def _word(node):
    # Nothing but a text is looked up: other things may be nested too deep for it.
    need(isinstance(node, tuple) and len(node) > 0 and isinstance(node[0], str))
    return node[0]


def _plan_word(plan):
    """The word of a plan that has as many parts as it must."""
    word = _word(plan)
    need(PLAN_LENGTHS.get(word, 0) == len(plan))
    return word


def _expr_word(expr):
    """The word of an expression that has as many parts as it must."""
    word = _word(expr)
    need(EXPR_LENGTHS.get(word, 0) == len(expr))
    return word


def _parts(thing, many):
    need(isinstance(thing, tuple) and len(thing) == many)
    return thing


def _is_count(x):
    return is_whole(x) and x >= 0


def _kind_at(row, index):
    need(is_whole(index) and 0 <= index < len(row))
    return row[index]


def _is_agg(name):
    return isinstance(name, str) and (name == "rows" or name in AGGS)


def _is_edge(edge):
    word, number = _parts(edge, 2)
    need(isinstance(word, str) and word in EDGES and _is_count(number))
    return number == 0 or word in ("before", "after")


def _rows_kinds(plan):
    _, kinds, rows = plan
    need(isinstance(kinds, tuple) and all([isinstance(kind, str) and kind in KINDS for kind in kinds]))
    need(isinstance(rows, tuple) and len(rows) <= MOST_ROWS)
    for row in rows:
        need(isinstance(row, tuple) and len(row) == len(kinds))
        need(all([is_value(value, kind) for value, kind in zip(row, kinds)]))
    return kinds
