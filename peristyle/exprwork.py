"""Functions that work out expressions for rows; they are made once for each expression."""

from peristyle.operators import WORK, is_strict, worked
from peristyle.value import least_fault


def worker_of(expr, host):
    """A function of a row and the rows of the queries around; host.query_worker makes those of plans in expressions."""
    make = MAKERS[expr[0]]
    return make(expr, host)


def workers_of(exprs, host):
    """A list of such functions."""
    return [worker_of(expr, host) for expr in exprs]


def _column(expr, host):
    index = expr[1]
    return lambda row, outers: row[index]


def _outer(expr, host):
    _, depth, index = expr
    return lambda row, outers: outers[depth - 1][index]


def _const(expr, host):
    value = expr[2]
    return lambda row, outers: value


def _operator(expr, host):
    _, name, args = expr
    workers = workers_of(args, host)
    if name in ("and", "or"):
        return _deciding(name, workers[0], workers[1])
    if is_strict(name) and len(args) == 2:
        return _strict(WORK[name], workers[0], workers[1])
    return lambda row, outers: worked(name, tuple([work(row, outers) for work in workers]))


def _strict(combine, first, second):
    def work(row, outers):
        one = first(row, outers)
        other = second(row, outers)
        if one is None or other is None:
            return None
        # No value is a tuple, so these are faults.
        if isinstance(one, tuple) or isinstance(other, tuple):
            return least_fault([one, other])
        return combine(one, other)

    return work


def _deciding(name, first, second):
    deciding = name == "or"
    combine = WORK[name]

    def work(row, outers):
        one = first(row, outers)
        if one == deciding:
            return deciding
        return combine(one, second(row, outers))

    return work


def _case(expr, host):
    _, pairs, other = expr
    workers = [(worker_of(cond, host), worker_of(value, host)) for cond, value in pairs]
    last = worker_of(other, host)

    def work(row, outers):
        for cond, value in workers:
            told = cond(row, outers)
            if told is True:
                return value(row, outers)
            if isinstance(told, tuple):
                return told
        return last(row, outers)

    return work


def _query(expr, host):
    return host.query_worker(expr)


MAKERS = {
    "col": _column, "outer": _outer, "const": _const, "op": _operator, "case": _case, "scalar": _query,
    "exists": _query, "in": _query,
}
