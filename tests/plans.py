"""What the tests of plans share: short ways to write them, and some schemas and tables."""

from peristyle.binder import bind
from peristyle.grammar import parse

T = ("t", (("a", "int", False), ("b", "text", True), ("c", "bool", True)), ((0,),))
U = ("u", (("a", "int", False), ("d", "int", True)), ())
W = ("w", (("k", "int", False), ("x", "text", False), ("y", "int", True)), ((0, 1), (1,)))
SCHEMAS = (T, U, W)

ONE_ROW = ("rows", (), ((),))
TRUE = ("const", "bool", True)
SCAN_T = ("scan", "t")
SCAN_U = ("scan", "u")
SCAN_W = ("scan", "w")


def col(index):
    return ("col", index)


def outer(depth, index):
    return ("outer", depth, index)


def num(value):
    return ("const", "int", value)


def text(value):
    return ("const", "text", value)


def op(name, *args):
    return ("op", name, args)


def cols(*indexes):
    return tuple(col(index) for index in indexes)


def asc(index):
    return (col(index), False, False)


def select(exprs, plan):
    return ("select", tuple(exprs), plan)


def where(cond, plan):
    return ("where", cond, plan)


def join(left, right, cond=TRUE, kind="inner"):
    return ("join", kind, cond, left, right)


def group(keys, aggs, plan):
    return ("group", tuple(keys), tuple(aggs), plan)


def top(order, limit, offset, plan):
    return ("top", tuple(order), limit, offset, plan)


def bound(query, schemas=SCHEMAS):
    return bind(parse(query), schemas)


def plan_of(query, schemas=SCHEMAS):
    return bound(query, schemas)[0]
