"""Operators for running plans, and functions for the plans in their expressions ([10.1])."""

from peristyle.dividework import DivideWork
from peristyle.exprwork import worker_of, workers_of
from peristyle.facts import safe
from peristyle.flow import RowsWork, ScanWork, SelectWork, UnionWork, WhereWork
from peristyle.groupwork import GroupWork
from peristyle.joinwork import HashWork, LoopWork, MergeWork
from peristyle.limits import width
from peristyle.methods import rest_of, usual
from peristyle.orderwork import Fun, Sorting, TopWork, WindowWork
from peristyle.plan import parts
from peristyle.querywork import Query
from peristyle.running import inputs_of, plan_of
from peristyle.shape import leaves

COMPARISONS = ("eq", "ne", "lt", "le", "gt", "ge")


class Host:
    """Makes the operators of a run."""

    def __init__(self, course):
        self.course = course
        self.forms = {name: pair[0] for name, pair in course.tables.items()}

    def operator_of(self, running):
        """The operator of a running plan."""
        make = MAKERS[running[0]]
        return make(self, running, [self.operator_of(below) for below in inputs_of(running)])

    def widths(self, running):
        """The numbers of columns of the inputs."""
        return [width(plan_of(below), self.forms) for below in inputs_of(running)]

    def worker(self, expr):
        """A function that works out an expression, or None for None."""
        return None if expr is None else worker_of(expr, self)

    def sorting_of(self, order):
        """An order at work."""
        return Sorting([(self.worker(expr), desc, first) for expr, desc, first in order])

    def query_worker(self, expr):
        """A function that works out an expression with a plan."""
        word = expr[0]
        plan = expr[-1]
        query = Query(self.course, self.operator_of(usual(plan, self.forms)), free_in(plan))
        if word == "scalar":
            return lambda row, outers: query.scalar(row, outers)
        if word == "exists":
            return lambda row, outers: query.exists(row, outers)
        value = self.worker(expr[1])
        return lambda row, outers: query.within(value(row, outers), row, outers)


def free_in(plan):
    """The columns of the rows around that a plan uses, as pairs (level, index); the next row has the level 0."""
    found = {}
    for leaf, level in leaves(plan, 0):
        if leaf[0] == "outer" and leaf[1] > level:
            found[(leaf[1] - level - 1, leaf[2])] = True
    return sorted(found)


def bound_tests(cond, many):
    """What must hold for rows of a table with so many columns, as triples (operator, column, value)."""
    if cond is None or not safe(cond, [False] * many):
        return []
    found = []
    for part in parts(cond):
        if part[0] == "op" and part[1] in COMPARISONS and part[2][0][0] == "col" and part[2][1][0] == "const":
            found.append((part[1], part[2][0][1], part[2][1][2]))
    return found


def _scan(host, running, inputs):
    _, table, cond = running
    return ScanWork(host.course, table, host.worker(cond), bound_tests(cond, len(host.forms[table][1])))


def _rows(host, running, inputs):
    return RowsWork(host.course, running[2])


def _where(host, running, inputs):
    return WhereWork(host.course, inputs, host.worker(running[1]))


def _select(host, running, inputs):
    return SelectWork(host.course, inputs, workers_of(running[1], host))


def _union(host, running, inputs):
    return UnionWork(host.course, inputs)


def _loop(host, running, inputs):
    _, kind, cond, _, _ = running
    return LoopWork(host.course, inputs, kind, host.worker(cond), host.widths(running))


def _by_keys(host, running):
    """The cond that is left for rows with equal keys, the widths of the sides, and functions for their keys."""
    _, _, lefts, rights, cond, _, _ = running
    widths = host.widths(running)
    rest = host.worker(rest_of(cond, lefts, rights, widths[0]))
    return rest, widths, [workers_of(lefts, host), workers_of(rights, host)]


def _hash(host, running, inputs):
    rest, widths, works = _by_keys(host, running)
    return HashWork(host.course, inputs, running[1], rest, widths, works)


def _merge(host, running, inputs):
    rest, widths, works = _by_keys(host, running)
    return MergeWork(host.course, inputs, running[1], rest, widths, works)


def _grouped(host, running, inputs, by_table):
    _, group_keys, aggs, _ = running
    works = [(name, distinct, host.worker(arg)) for name, distinct, arg in aggs]
    return GroupWork(host.course, inputs, workers_of(group_keys, host), works, by_table)


def _group(host, running, inputs):
    return _grouped(host, running, inputs, True)


def _sorted(host, running, inputs):
    return _grouped(host, running, inputs, False)


def _distinct(host, running, inputs):
    return GroupWork(host.course, inputs, None, [], True)


def _except(host, running, inputs):
    return DivideWork(host.course, inputs, False)


def _meet(host, running, inputs):
    return DivideWork(host.course, inputs, True)


def _window(host, running, inputs):
    funs = []
    for name, arg, partition, order, frame in running[1]:
        funs.append(Fun(name, host.worker(arg), workers_of(partition, host), host.sorting_of(order), frame))
    return WindowWork(host.course, inputs, funs)


def _top(host, running, inputs):
    _, order, limit, offset, _ = running
    return TopWork(host.course, inputs, host.sorting_of(order), limit, offset)


MAKERS = {
    "scan": _scan, "rows": _rows, "where": _where, "select": _select, "union": _union, "loop": _loop, "hash": _hash,
    "merge": _merge, "group": _group, "sorted": _sorted, "distinct": _distinct, "except": _except, "meet": _meet,
    "window": _window, "top": _top,
}
