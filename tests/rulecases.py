"""Plans before and after each rule of steps, and plans that break one of its ifs alone."""

from tests.plans import (
    ONE_ROW, SCAN_T, SCAN_U, SCAN_W, SCHEMAS, TRUE, asc, col, cols, group, join, num, op, outer, select, text, top, where,
)

V = ("v", (("k", "int", False), ("m", "int", False), ("y", "int", True)), ((0, 1),))
RULE_SCHEMAS = SCHEMAS + (V,)
SCAN_V = ("scan", "v")
FALSE = ("const", "bool", False)
NULL = ("const", "bool", None)
NOUGHT = num(None)


def eq(one, other):
    return op("eq", one, other)


def conj(one, other):
    return op("and", one, other)


def both(one, other):
    return op("or", one, other)


def neg(cond):
    return op("not", cond)


def shaky(index):
    """A condition of an int column that may be a fault."""
    return eq(op("div", num(6), col(index)), num(2))


def distinct(plan):
    return ("distinct", plan)


def union(one, other):
    return ("union", one, other)


def window(funs, plan):
    return ("window", tuple(funs), plan)


def fun(name, arg=None, partition=(), order=(), frame=None):
    return (name, arg, tuple(partition), tuple(order), frame)


def inn(expr, plan):
    return ("in", expr, plan)


def exists(plan):
    return ("exists", plan)


def scalar(plan):
    return ("scalar", plan)


# t: a int key, b text or null, c bool or null. u: a int, d int or null, no key. w: k int, x text key, y int or null.
LOW = op("lt", col(0), num(2))
SHAKY = shaky(0)
B_IS_X = eq(col(1), text("x"))
# Plans that may fail, and plans with columns that may be faults.
FAILING_T = where(SHAKY, SCAN_T)
FAILING_U = where(SHAKY, SCAN_U)
FAULTY_U = select((op("div", num(6), col(0)), col(1)), SCAN_U)
FAULTY_T = select((op("add", col(0), num(1)), col(1), col(2)), SCAN_T)
ORDERED_T = top((asc(0),), None, 0, SCAN_T)
ORDERED_U = top((asc(0),), 3, 0, SCAN_U)
# Of t and u: a, b, c, a, d.
KEYED = eq(col(0), col(3))
# Safe conditions with plans in them: the plan never fails.
ANY_U = exists(SCAN_U)
IN_U = inn(col(0), select((col(0),), SCAN_U))

TAKEN = {
    "split": [
        (where(conj(LOW, B_IS_X), SCAN_T), where(B_IS_X, where(LOW, SCAN_T))),
        (where(conj(LOW, SHAKY), SCAN_T), where(SHAKY, where(LOW, SCAN_T))),
        (where(conj(conj(LOW, B_IS_X), SHAKY), SCAN_T), where(SHAKY, where(conj(LOW, B_IS_X), SCAN_T))),
        (where(conj(LOW, conj(B_IS_X, SHAKY)), FAILING_T), where(conj(B_IS_X, SHAKY), where(LOW, FAILING_T))),
        (where(conj(ANY_U, SHAKY), SCAN_T), where(SHAKY, where(ANY_U, SCAN_T))),
        (where(conj(IN_U, SHAKY), SCAN_T), where(SHAKY, where(IN_U, SCAN_T))),
    ],
    "merge": [
        (where(B_IS_X, where(LOW, SCAN_T)), where(conj(LOW, B_IS_X), SCAN_T)),
        (where(SHAKY, where(LOW, SCAN_T)), where(conj(LOW, SHAKY), SCAN_T)),
        (where(SHAKY, where(LOW, FAILING_T)), where(conj(LOW, SHAKY), FAILING_T)),
    ],
    "true": [
        (where(TRUE, SCAN_T), SCAN_T),
        (where(TRUE, FAILING_T), FAILING_T),
        (where(TRUE, where(LOW, ORDERED_T)), where(LOW, ORDERED_T)),
    ],
    "select": [
        (where(op("lt", col(1), num(3)), select((col(1), op("add", col(0), num(1))), SCAN_T)),
         select((col(1), op("add", col(0), num(1))), where(op("lt", op("add", col(0), num(1)), num(3)), SCAN_T))),
        (where(exists(where(eq(outer(1, 0), col(0)), SCAN_U)), select((op("div", num(4), col(0)),), SCAN_T)),
         select((op("div", num(4), col(0)),),
                where(exists(where(eq(op("div", num(4), outer(1, 0)), col(0)), SCAN_U)), SCAN_T))),
        (where(TRUE, select((), ORDERED_T)), select((), where(TRUE, ORDERED_T))),
    ],
    "inline": [
        (select((op("neg", col(1)), col(1)), select((col(1), op("div", num(1), col(0))), SCAN_U)),
         select((op("neg", op("div", num(1), col(0))), op("div", num(1), col(0))), SCAN_U)),
        (select((scalar(select((op("abs", outer(1, 0)),), ONE_ROW)),), select((col(1),), ORDERED_U)),
         select((scalar(select((op("abs", outer(1, 1)),), ONE_ROW)),), ORDERED_U)),
        (select((), select((), SCAN_T)), select((), SCAN_T)),
    ],
    "same": [
        (select(cols(0, 1, 2), SCAN_T), SCAN_T),
        (select(cols(0, 1, 2), ORDERED_T), ORDERED_T),
        (select(cols(0, 1, 2, 3, 4), join(SCAN_T, FAULTY_U, shaky(0), "left")), join(SCAN_T, FAULTY_U, shaky(0), "left")),
        (select((), ONE_ROW), ONE_ROW),
    ],
    "down": [
        (where(LOW, join(SCAN_T, SCAN_U, KEYED, kind)), join(where(LOW, SCAN_T), SCAN_U, KEYED, kind))
        for kind in ("inner", "left", "semi", "anti")
    ] + [
        (where(LOW, join(FAILING_T, SCAN_U, KEYED, "left")), join(where(LOW, FAILING_T), SCAN_U, KEYED, "left")),
        (where(FALSE, join(SCAN_T, SCAN_U, KEYED)), join(where(FALSE, SCAN_T), SCAN_U, KEYED)),
        (where(inn(col(0), where(eq(col(0), num(1)), select((col(0),), SCAN_U))), join(SCAN_T, SCAN_U)),
         join(where(inn(col(0), where(eq(col(0), num(1)), select((col(0),), SCAN_U))), SCAN_T), SCAN_U)),
        (where(B_IS_X, join(FAULTY_T, SCAN_U)), join(where(B_IS_X, FAULTY_T), SCAN_U)),
        (where(col(2), join(SCAN_T, SCAN_U)), join(where(col(2), SCAN_T), SCAN_U)),
    ],
    "downright": [
        (where(op("lt", col(3), num(2)), join(SCAN_T, SCAN_U, KEYED, kind)), join(SCAN_T, where(LOW, SCAN_U), KEYED, kind))
        for kind in ("inner", "right")
    ] + [
        (where(eq(col(3), col(4)), join(SCAN_T, FAILING_U, KEYED)), join(SCAN_T, where(eq(col(0), col(1)), FAILING_U), KEYED)),
        (where(NULL, join(SCAN_T, SCAN_U, KEYED)), join(SCAN_T, where(NULL, SCAN_U), KEYED)),
        (where(op("isnull", col(4)), join(SCAN_T, FAULTY_U, TRUE, "right")),
         join(SCAN_T, where(op("isnull", col(1)), FAULTY_U), TRUE, "right")),
    ],
    "on": [
        (where(KEYED, join(SCAN_T, SCAN_U)), join(SCAN_T, SCAN_U, conj(TRUE, KEYED))),
        (where(shaky(3), join(SCAN_T, SCAN_U, KEYED)), join(SCAN_T, SCAN_U, conj(KEYED, shaky(3)))),
        (where(LOW, join(FAILING_T, FAULTY_U)), join(FAILING_T, FAULTY_U, conj(TRUE, LOW))),
    ],
    "off": [
        (join(SCAN_T, SCAN_U, conj(TRUE, KEYED)), where(KEYED, join(SCAN_T, SCAN_U))),
        (join(SCAN_T, SCAN_U, conj(KEYED, shaky(3))), where(shaky(3), join(SCAN_T, SCAN_U, KEYED))),
        (join(SCAN_T, SCAN_U, conj(conj(KEYED, LOW), SHAKY)), where(SHAKY, join(SCAN_T, SCAN_U, conj(KEYED, LOW)))),
    ],
    "swap": [
        (join(SCAN_T, SCAN_U, conj(KEYED, shaky(4))),
         select(cols(2, 3, 4, 0, 1), join(SCAN_U, SCAN_T, conj(eq(col(2), col(0)), shaky(1))))),
        (join(FAILING_T, FAILING_U), select(cols(2, 3, 4, 0, 1), join(FAILING_U, FAILING_T))),
        (join(SCAN_U, SCAN_U, exists(where(eq(outer(1, 3), col(0)), SCAN_T))),
         select(cols(2, 3, 0, 1), join(SCAN_U, SCAN_U, exists(where(eq(outer(1, 1), col(0)), SCAN_T))))),
        (join(ONE_ROW, SCAN_U), select(cols(0, 1), join(SCAN_U, ONE_ROW))),
    ],
    "swapouter": [
        (join(SCAN_T, SCAN_U, KEYED, "left"), select(cols(2, 3, 4, 0, 1), join(SCAN_U, SCAN_T, eq(col(2), col(0)), "right"))),
        (join(SCAN_T, SCAN_U, KEYED, "right"), select(cols(2, 3, 4, 0, 1), join(SCAN_U, SCAN_T, eq(col(2), col(0)), "left"))),
        (join(FAILING_T, FAULTY_U, SHAKY, "left"), select(cols(2, 3, 4, 0, 1), join(FAULTY_U, FAILING_T, shaky(2), "right"))),
    ],
    "turn": [
        # t, u and w: a, b, c, a, d, k, x, y.
        (join(join(SCAN_T, SCAN_U, KEYED), SCAN_W, eq(col(4), col(7))),
         join(SCAN_T, join(SCAN_U, SCAN_W, eq(col(1), col(4))), KEYED)),
        (join(join(SCAN_T, FAILING_U, KEYED), SCAN_W), join(SCAN_T, join(FAILING_U, SCAN_W), KEYED)),
        (join(join(SCAN_T, SCAN_U), SCAN_W, FALSE), join(SCAN_T, join(SCAN_U, SCAN_W, FALSE))),
        (join(join(SCAN_T, SCAN_U), SCAN_W, op("isnull", col(7))), join(SCAN_T, join(SCAN_U, SCAN_W, op("isnull", col(4))))),
    ],
    "turnback": [
        (join(SCAN_T, join(SCAN_U, SCAN_W, eq(col(1), col(4))), KEYED),
         join(join(SCAN_T, SCAN_U, KEYED), SCAN_W, eq(col(4), col(7)))),
        (join(SCAN_T, join(FAILING_U, SCAN_W), KEYED), join(join(SCAN_T, FAILING_U, KEYED), SCAN_W)),
        (join(SCAN_T, join(SCAN_U, SCAN_W, FALSE), LOW), join(join(SCAN_T, SCAN_U, LOW), SCAN_W, FALSE)),
    ],
    "strict": [
        (where(cond, join(SCAN_T, SCAN_U, KEYED, "left")), where(cond, join(SCAN_T, SCAN_U, KEYED)))
        for cond in (op("lt", col(3), num(2)), shaky(4), conj(LOW, eq(col(4), col(3))), both(shaky(3), eq(col(0), col(4))))
    ],
    "unite": [
        (where(LOW, union(SCAN_U, FAILING_U)), union(where(LOW, SCAN_U), where(LOW, FAILING_U))),
        (where(SHAKY, union(SCAN_U, SCAN_U)), union(where(SHAKY, SCAN_U), where(SHAKY, SCAN_U))),
        (where(op("isnull", col(1)), union(SCAN_U, FAULTY_U)),
         union(where(op("isnull", col(1)), SCAN_U), where(op("isnull", col(1)), FAULTY_U))),
        (where(TRUE, union(ORDERED_U, FAILING_U)), union(where(TRUE, ORDERED_U), where(TRUE, FAILING_U))),
    ],
    "once": [
        (distinct(SCAN_T), SCAN_T),
        (distinct(group((col(1),), (("rows", False, None),), FAILING_U)), group((col(1),), (("rows", False, None),), FAILING_U)),
        (distinct(group((), (("count", False, col(1)),), SCAN_U)), group((), (("count", False, col(1)),), SCAN_U)),
        (distinct(select(cols(1, 0), SCAN_T)), select(cols(1, 0), SCAN_T)),
        (distinct(distinct(SCAN_U)), distinct(SCAN_U)),
    ],
    "oncewhere": [
        (where(LOW, distinct(SCAN_U)), distinct(where(LOW, SCAN_U))),
        (where(SHAKY, distinct(FAILING_U)), distinct(where(SHAKY, FAILING_U))),
    ],
    "groupwhere": [
        (where(op("lt", col(1), num(3)), group((op("isnull", col(1)), op("abs", col(0))), (("sum", False, col(1)),), SCAN_U)),
         group((op("isnull", col(1)), op("abs", col(0))), (("sum", False, col(1)),),
               where(op("lt", op("abs", col(0)), num(3)), SCAN_U))),
        (where(FALSE, group((col(0),), (("sum", True, op("div", num(1), col(1))),), FAILING_U)),
         group((col(0),), (("sum", True, op("div", num(1), col(1))),), where(FALSE, FAILING_U))),
        (where(IN_U, group((col(1),), (), SCAN_U)),
         group((col(1),), (), where(inn(col(1), select((col(0),), SCAN_U)), SCAN_U))),
    ],
    "prune": [
        (select((col(1), col(4)), join(SCAN_T, SCAN_U, KEYED, "full")),
         select((col(1), col(3)), join(select(cols(0, 1), SCAN_T), SCAN_U, eq(col(0), col(2)), "full"))),
        (select((col(1),), join(SCAN_T, SCAN_U, KEYED, "inner")),
         select((col(1),), join(SCAN_T, select((col(0),), SCAN_U), KEYED, "inner"))),
        (select((col(1),), join(SCAN_T, SCAN_U, KEYED, "anti")),
         select((col(1),), join(SCAN_T, select((col(0),), SCAN_U), KEYED, "anti"))),
        (select((col(1),), join(SCAN_T, SCAN_U, eq(col(3), col(4)), "semi")),
         select((col(0),), join(select((col(1),), SCAN_T), SCAN_U, eq(col(1), col(2)), "semi"))),
        (select((num(1),), join(SCAN_T, FAULTY_U)), select((num(1),), join(SCAN_T, select((), FAULTY_U)))),
        (select((scalar(select((outer(1, 4),), ONE_ROW)),), join(SCAN_T, SCAN_U, KEYED, "left")),
         select((scalar(select((outer(1, 2),), ONE_ROW)),), join(select((col(0),), SCAN_T), SCAN_U, eq(col(0), col(1)), "left"))),
        (select((col(3), col(0)), window((fun("place"), fun("rank", None, (col(0),)), fun("sum", op("div", num(1), col(0)))), SCAN_U)),
         select((col(2), col(0)), window((fun("rank", None, (col(0),)),), SCAN_U))),
        (select((col(0),), window((fun("place"),), SCAN_U)), select((col(0),), window((), SCAN_U))),
        (select((col(0),), window((fun("rank", None, (SHAKY,)), fun("max", op("div", num(1), col(0)))), SCAN_U)),
         select((col(0),), window((fun("rank", None, (SHAKY,)),), SCAN_U))),
        (select((col(0), col(3)), group((col(0), SHAKY), (("sum", False, col(0)), ("rows", False, None)), SCAN_U)),
         select((col(0), col(2)), group((col(0), SHAKY), (("rows", False, None),), SCAN_U))),
        (select((), group((), (("rows", False, None),), SCAN_U)), select((), group((), (), SCAN_U))),
        (select((col(1),), select((op("div", num(1), col(0)), col(1)), SCAN_U)), select((col(0),), select((col(1),), SCAN_U))),
        (select((col(1),), select((col(0), col(1)), ORDERED_U)), select((col(0),), select((col(1),), ORDERED_U))),
    ],
    "drop": [
        (select((col(1), op("div", num(1), col(0))), join(SCAN_U, SCAN_T, eq(col(0), col(2)), "left")),
         select((col(1), op("div", num(1), col(0))), SCAN_U)),
        # k and m together are the key of v.
        (select((col(1),), join(SCAN_U, SCAN_V, conj(conj(eq(col(2), col(0)), LOW), conj(eq(col(4), col(0)), eq(col(1), col(3)))), "left")),
         select((col(1),), SCAN_U)),
        # x alone is a key of w, and so are k and x.
        (select((col(1),), join(SCAN_T, SCAN_W, conj(eq(col(4), col(1)), eq(col(0), col(5))), "left")), select((col(1),), SCAN_T)),
        (select((col(0),), join(FAILING_U, group((), (), SCAN_W), TRUE, "left")), select((col(0),), FAILING_U)),
    ],
    "exists": [
        (where(exists(where(eq(outer(1, 0), col(1)), SCAN_U)), SCAN_T), join(SCAN_T, SCAN_U, eq(col(0), col(4)), "semi")),
        (where(exists(SCAN_U), SCAN_T), join(SCAN_T, SCAN_U, TRUE, "semi")),
        (where(exists(where(FALSE, SCAN_U)), SCAN_T), join(SCAN_T, SCAN_U, FALSE, "semi")),
        (where(exists(where(eq(outer(1, 1), text("x")), where(LOW, SCAN_U))), SCAN_T),
         join(SCAN_T, where(LOW, SCAN_U), eq(col(1), text("x")), "semi")),
        (where(exists(where(eq(outer(1, 2), TRUE), group((), (), FAULTY_U))), ORDERED_T),
         join(ORDERED_T, group((), (), FAULTY_U), eq(col(2), TRUE), "semi")),
    ],
    "notexists": [
        (where(neg(exists(where(eq(outer(1, 0), col(1)), SCAN_U))), SCAN_T), join(SCAN_T, SCAN_U, eq(col(0), col(4)), "anti")),
        (where(neg(exists(ORDERED_U)), SCAN_T), join(SCAN_T, ORDERED_U, TRUE, "anti")),
    ],
    "within": [
        (where(inn(col(0), select((op("abs", col(1)),), where(op("lt", col(0), outer(1, 0)), SCAN_U))), SCAN_T),
         join(SCAN_T, SCAN_U, conj(op("lt", col(3), col(0)), eq(col(0), op("abs", col(4)))), "semi")),
        (where(inn(col(0), select((col(1),), SCAN_U)), SCAN_T), join(SCAN_T, SCAN_U, conj(TRUE, eq(col(0), col(4))), "semi")),
        # The table of the rules names eq alone.
        (where(inn(col(0), select((col(1),), SCAN_U)), SCAN_T), join(SCAN_T, SCAN_U, eq(col(0), col(4)), "semi")),
        (where(inn(NOUGHT, select((NOUGHT,), where(LOW, SCAN_U))), SCAN_T),
         join(SCAN_T, SCAN_U, conj(op("lt", col(3), num(2)), eq(NOUGHT, NOUGHT)), "semi")),
    ],
    "semi": [
        (join(SCAN_U, SCAN_T, eq(col(0), col(2)), "semi"), select(cols(0, 1), join(SCAN_U, SCAN_T, eq(col(0), col(2))))),
        (join(FAILING_U, SCAN_V, conj(eq(col(2), col(0)), eq(col(1), col(3))), "semi"),
         select(cols(0, 1), join(FAILING_U, SCAN_V, conj(eq(col(2), col(0)), eq(col(1), col(3)))))),
        (join(SCAN_T, SCAN_W, conj(eq(col(4), col(1)), LOW), "semi"),
         select(cols(0, 1, 2), join(SCAN_T, SCAN_W, conj(eq(col(4), col(1)), LOW)))),
        (join(FAILING_U, group((), (), FAILING_T), TRUE, "semi"),
         select(cols(0, 1), join(FAILING_U, group((), (), FAILING_T)))),
    ],
}

# By rule: what is broken, the plan, and what the rule would make of it.
REFUSED = {
    "split": [
        ("c is not safe", where(conj(SHAKY, LOW), SCAN_T), where(LOW, where(SHAKY, SCAN_T))),
        ("c uses a column that may be a fault", where(conj(LOW, B_IS_X), FAULTY_T), where(B_IS_X, where(LOW, FAULTY_T))),
        ("c has a plan that may fail", where(conj(exists(FAILING_U), LOW), SCAN_T), where(LOW, where(exists(FAILING_U), SCAN_T))),
        ("no and", where(both(LOW, B_IS_X), SCAN_T), where(B_IS_X, where(LOW, SCAN_T))),
        ("the other order", where(conj(LOW, SHAKY), SCAN_T), where(LOW, where(SHAKY, SCAN_T))),
    ],
    "merge": [
        ("c is not safe", where(LOW, where(SHAKY, SCAN_T)), where(conj(SHAKY, LOW), SCAN_T)),
        ("the other order", where(SHAKY, where(LOW, SCAN_T)), where(conj(SHAKY, LOW), SCAN_T)),
        ("no where below", where(LOW, distinct(SCAN_T)), where(conj(LOW, LOW), SCAN_T)),
    ],
    "true": [
        ("P has an order", where(TRUE, ORDERED_T), ORDERED_T),
        ("P has an order below selects", where(TRUE, select((col(0),), ORDERED_T)), select((col(0),), ORDERED_T)),
        ("another const", where(FALSE, SCAN_T), SCAN_T),
        ("null", where(NULL, SCAN_T), SCAN_T),
    ],
    "select": [
        ("no select below", where(LOW, SCAN_T), select(cols(0, 1, 2), where(LOW, SCAN_T))),
        ("columns not put in", where(B_IS_X, select((col(2), col(1)), SCAN_T)), select((col(2), col(1)), where(LOW, SCAN_T))),
    ],
    "inline": [
        ("no select below", select((col(0),), distinct(SCAN_T)), select((col(0),), SCAN_T)),
        ("no select above", distinct(select((col(0),), SCAN_T)), select((col(0),), SCAN_T)),
    ],
    "same": [
        ("not in order", select(cols(1, 0), SCAN_U), SCAN_U),
        ("a column twice", select(cols(0, 0), SCAN_U), SCAN_U),
        ("no column", select((op("abs", col(0)), col(1)), SCAN_U), SCAN_U),
    ],
    "down": [
        ("c is not safe", where(SHAKY, join(SCAN_T, SCAN_U, KEYED)), join(where(SHAKY, SCAN_T), SCAN_U, KEYED)),
        ("d is not safe", where(LOW, join(SCAN_T, SCAN_U, shaky(3))), join(where(LOW, SCAN_T), SCAN_U, shaky(3))),
        ("Q may fail", where(LOW, join(SCAN_T, FAILING_U, KEYED)), join(where(LOW, SCAN_T), FAILING_U, KEYED)),
        ("right", where(LOW, join(SCAN_T, SCAN_U, KEYED, "right")), join(where(LOW, SCAN_T), SCAN_U, KEYED, "right")),
        ("full", where(LOW, join(SCAN_T, SCAN_U, KEYED, "full")), join(where(LOW, SCAN_T), SCAN_U, KEYED, "full")),
        ("of the right", where(eq(col(3), num(1)), join(SCAN_U, SCAN_U)), join(where(eq(col(1), num(1)), SCAN_U), SCAN_U)),
        ("of both", where(eq(col(0), col(2)), join(SCAN_U, SCAN_U)), join(where(eq(col(0), col(0)), SCAN_U), SCAN_U)),
    ],
    "downright": [
        ("c is not safe", where(shaky(3), join(SCAN_T, SCAN_U, KEYED)), join(SCAN_T, where(SHAKY, SCAN_U), KEYED)),
        ("d is not safe", where(eq(col(3), num(1)), join(SCAN_T, SCAN_U, SHAKY)), join(SCAN_T, where(eq(col(0), num(1)), SCAN_U), SHAKY)),
        ("P may fail", where(eq(col(3), num(1)), join(FAILING_T, SCAN_U)), join(FAILING_T, where(eq(col(0), num(1)), SCAN_U))),
        ("left", where(eq(col(3), num(1)), join(SCAN_T, SCAN_U, KEYED, "left")),
         join(SCAN_T, where(eq(col(0), num(1)), SCAN_U), KEYED, "left")),
        ("full", where(eq(col(3), num(1)), join(SCAN_T, SCAN_U, KEYED, "full")),
         join(SCAN_T, where(eq(col(0), num(1)), SCAN_U), KEYED, "full")),
        ("semi", where(LOW, join(SCAN_U, SCAN_U, TRUE, "semi")), join(SCAN_U, where(LOW, SCAN_U), TRUE, "semi")),
        ("of the left", where(LOW, join(SCAN_U, SCAN_U)), join(SCAN_U, where(LOW, SCAN_U))),
        ("of both", where(eq(col(0), col(3)), join(SCAN_T, SCAN_U)), join(SCAN_T, where(eq(col(0), col(0)), SCAN_U))),
        ("not moved", where(op("lt", col(2), num(2)), join(SCAN_U, SCAN_U)), join(SCAN_U, where(op("lt", col(1), num(2)), SCAN_U))),
    ],
    "on": [
        ("d is not safe", where(LOW, join(SCAN_T, SCAN_U, shaky(3))), join(SCAN_T, SCAN_U, conj(shaky(3), LOW))),
        ("left", where(LOW, join(SCAN_T, SCAN_U, KEYED, "left")), join(SCAN_T, SCAN_U, conj(KEYED, LOW), "left")),
        ("semi", where(LOW, join(SCAN_T, SCAN_U, KEYED, "anti")), join(SCAN_T, SCAN_U, conj(KEYED, LOW), "anti")),
        ("the other order", where(SHAKY, join(SCAN_T, SCAN_U, KEYED)), join(SCAN_T, SCAN_U, conj(SHAKY, KEYED))),
    ],
    "off": [
        ("d is not safe", join(SCAN_T, SCAN_U, conj(shaky(3), LOW)), where(LOW, join(SCAN_T, SCAN_U, shaky(3)))),
        ("left", join(SCAN_T, SCAN_U, conj(KEYED, LOW), "left"), where(LOW, join(SCAN_T, SCAN_U, KEYED, "left"))),
        ("semi", join(SCAN_T, SCAN_U, conj(KEYED, LOW), "semi"), where(LOW, join(SCAN_T, SCAN_U, KEYED, "semi"))),
        ("no and", join(SCAN_T, SCAN_U, both(KEYED, LOW)), where(LOW, join(SCAN_T, SCAN_U, KEYED))),
    ],
    "swap": [
        ("left", join(SCAN_U, SCAN_U, LOW, "left"), select(cols(2, 3, 0, 1), join(SCAN_U, SCAN_U, op("lt", col(2), num(2)), "left"))),
        ("full", join(SCAN_U, SCAN_U, LOW, "full"), select(cols(2, 3, 0, 1), join(SCAN_U, SCAN_U, op("lt", col(2), num(2)), "full"))),
        ("cond not moved", join(SCAN_U, SCAN_U, LOW), select(cols(2, 3, 0, 1), join(SCAN_U, SCAN_U, LOW))),
    ],
    "swapouter": [
        ("inner", join(SCAN_U, SCAN_U, LOW), select(cols(2, 3, 0, 1), join(SCAN_U, SCAN_U, op("lt", col(2), num(2))))),
        ("full", join(SCAN_U, SCAN_U, LOW, "full"), select(cols(2, 3, 0, 1), join(SCAN_U, SCAN_U, op("lt", col(2), num(2)), "full"))),
        ("left again", join(SCAN_U, SCAN_U, LOW, "left"), select(cols(2, 3, 0, 1), join(SCAN_U, SCAN_U, op("lt", col(2), num(2)), "left"))),
    ],
    "turn": [
        ("c of P too", join(join(SCAN_T, SCAN_U), SCAN_W, eq(col(0), col(7))), join(SCAN_T, join(SCAN_U, SCAN_W), eq(col(0), col(7)))),
        ("c not safe", join(join(SCAN_T, SCAN_U), SCAN_W, shaky(7)), join(SCAN_T, join(SCAN_U, SCAN_W, shaky(4)))),
        ("d not safe", join(join(SCAN_T, SCAN_U, SHAKY), SCAN_W), join(SCAN_T, join(SCAN_U, SCAN_W), SHAKY)),
        ("P may fail", join(join(FAILING_T, SCAN_U), SCAN_W), join(FAILING_T, join(SCAN_U, SCAN_W))),
        ("R may fail", join(join(SCAN_T, SCAN_U), FAILING_U), join(SCAN_T, join(SCAN_U, FAILING_U))),
        ("left above", join(join(SCAN_T, SCAN_U), SCAN_W, TRUE, "left"), join(SCAN_T, join(SCAN_U, SCAN_W))),
        ("left below", join(join(SCAN_T, SCAN_U, KEYED, "left"), SCAN_W), join(SCAN_T, join(SCAN_U, SCAN_W), KEYED)),
    ],
    "turnback": [
        ("d of R too", join(SCAN_T, join(SCAN_U, SCAN_W), eq(col(0), col(7))), join(join(SCAN_T, SCAN_U), SCAN_W, eq(col(0), col(7)))),
        ("c not safe", join(SCAN_T, join(SCAN_U, SCAN_W, SHAKY)), join(join(SCAN_T, SCAN_U), SCAN_W, shaky(3))),
        ("d not safe", join(SCAN_T, join(SCAN_U, SCAN_W), SHAKY), join(join(SCAN_T, SCAN_U, SHAKY), SCAN_W)),
        ("P may fail", join(FAILING_T, join(SCAN_U, SCAN_W)), join(join(FAILING_T, SCAN_U), SCAN_W)),
        ("R may fail", join(SCAN_T, join(SCAN_U, FAILING_U)), join(join(SCAN_T, SCAN_U), FAILING_U)),
        ("left above", join(SCAN_T, join(SCAN_U, SCAN_W), KEYED, "left"), join(join(SCAN_T, SCAN_U, KEYED), SCAN_W)),
        ("left below", join(SCAN_T, join(SCAN_U, SCAN_W, LOW, "left")), join(join(SCAN_T, SCAN_U), SCAN_W, op("lt", col(3), num(2)))),
    ],
    "strict": [
        ("of the left", where(LOW, join(SCAN_T, SCAN_U, KEYED, "left")), where(LOW, join(SCAN_T, SCAN_U, KEYED))),
        ("isnull", where(op("isnull", col(3)), join(SCAN_T, SCAN_U, KEYED, "left")), where(op("isnull", col(3)), join(SCAN_T, SCAN_U, KEYED))),
        ("one side of or", where(both(LOW, eq(col(3), num(1))), join(SCAN_T, SCAN_U, KEYED, "left")),
         where(both(LOW, eq(col(3), num(1))), join(SCAN_T, SCAN_U, KEYED))),
        ("d is not safe", where(eq(col(3), num(1)), join(SCAN_T, SCAN_U, SHAKY, "left")), where(eq(col(3), num(1)), join(SCAN_T, SCAN_U, SHAKY))),
        ("full", where(eq(col(3), num(1)), join(SCAN_T, SCAN_U, KEYED, "full")), where(eq(col(3), num(1)), join(SCAN_T, SCAN_U, KEYED))),
        ("right", where(LOW, join(SCAN_T, SCAN_U, KEYED, "right")), where(LOW, join(SCAN_T, SCAN_U, KEYED))),
        ("anti", where(LOW, join(SCAN_U, SCAN_U, LOW, "anti")), where(LOW, join(SCAN_U, SCAN_U, LOW, "semi"))),
    ],
    "unite": [
        ("c is not safe and P may fail", where(shaky(1), union(FAILING_U, SCAN_U)), union(where(shaky(1), FAILING_U), where(shaky(1), SCAN_U))),
        ("c is not safe and Q may fail", where(shaky(1), union(SCAN_U, FAILING_U)), union(where(shaky(1), SCAN_U), where(shaky(1), FAILING_U))),
        ("except", where(LOW, ("except", SCAN_U, SCAN_U)), ("except", where(LOW, SCAN_U), where(LOW, SCAN_U))),
    ],
    "once": [
        ("no key", distinct(SCAN_U), SCAN_U),
        ("an order", distinct(ORDERED_T), ORDERED_T),
        ("a column that may be a fault", distinct(select((col(0), op("div", num(1), col(0))), SCAN_T)), select((col(0), op("div", num(1), col(0))), SCAN_T)),
        ("a sum", distinct(group((col(0),), (("sum", False, col(0)),), SCAN_U)), group((col(0),), (("sum", False, col(0)),), SCAN_U)),
        ("the key is left out", distinct(select((col(1),), SCAN_T)), select((col(1),), SCAN_T)),
    ],
    "oncewhere": [
        ("a column that may be a fault", where(op("isnull", col(1)), distinct(FAULTY_U)), distinct(where(op("isnull", col(1)), FAULTY_U))),
        ("no distinct", where(LOW, group(cols(0, 1), (), SCAN_U)), distinct(where(LOW, SCAN_U))),
    ],
    "groupwhere": [
        ("c uses an agg", where(eq(col(1), num(1)), group((col(0),), (("rows", False, None),), SCAN_U)),
         group((col(0),), (("rows", False, None),), where(eq(col(1), num(1)), SCAN_U))),
        ("no keys", where(FALSE, group((), (("rows", False, None),), SCAN_U)), group((), (("rows", False, None),), where(FALSE, SCAN_U))),
        ("a key is not safe", where(LOW, group((op("div", num(6), col(0)),), (), SCAN_U)),
         group((op("div", num(6), col(0)),), (), where(op("lt", op("div", num(6), col(0)), num(2)), SCAN_U))),
        ("another key is not safe", where(LOW, group((col(0), SHAKY), (), SCAN_U)), group((col(0), SHAKY), (), where(LOW, SCAN_U))),
        ("c is not safe", where(SHAKY, group((col(0),), (), SCAN_U)), group((col(0),), (), where(SHAKY, SCAN_U))),
        ("columns not put in", where(LOW, group((col(1),), (), SCAN_U)), group((col(1),), (), where(LOW, SCAN_U))),
    ],
    "prune": [
        ("nothing to leave out of a join", select(cols(0, 1, 2, 3, 4), join(SCAN_T, SCAN_U)),
         select(cols(0, 1, 2, 3, 4), join(select(cols(0, 1, 2), SCAN_T), SCAN_U))),
        ("the cond uses it", select((col(3),), join(SCAN_T, SCAN_U, KEYED)), select((col(0),), join(select((), SCAN_T), SCAN_U, LOW))),
        ("a window with an order that may be a fault", select((col(0),), window((fun("place", None, (), ((SHAKY, False, False),)),), SCAN_U)),
         select((col(0),), window((), SCAN_U))),
        ("a window with a partition that may be a fault", select((col(0),), window((fun("place", None, (SHAKY,)),), SCAN_U)),
         select((col(0),), window((), SCAN_U))),
        ("a group without an agg", select((num(1),), group((col(0),), (), SCAN_U)), select((num(1),), group((), (), SCAN_U))),
        ("all is used", select((op("add", col(0), col(1)),), select(cols(1, 0), SCAN_U)), select((op("add", col(0), col(0)),), select((col(1),), SCAN_U))),
        ("a distinct", select((col(0),), distinct(SCAN_U)), select((col(0),), distinct(select((col(0),), SCAN_U)))),
    ],
    "drop": [
        ("e of the right too", select((col(0), col(2)), join(SCAN_U, SCAN_T, eq(col(0), col(2)), "left")), select(cols(0, 0), SCAN_U)),
        ("c is not safe", select((col(0),), join(SCAN_U, SCAN_T, conj(eq(col(0), col(2)), SHAKY), "left")), select((col(0),), SCAN_U)),
        ("Q may fail", select((col(0),), join(SCAN_U, FAILING_T, eq(col(0), col(2)), "left")), select((col(0),), SCAN_U)),
        ("P has an order", select((col(0),), join(ORDERED_U, SCAN_T, eq(col(0), col(2)), "left")), select((col(0),), ORDERED_U)),
        ("no key of Q", select((col(0),), join(SCAN_T, SCAN_U, KEYED, "left")), select((col(0),), SCAN_T)),
        ("a part of a key of Q", select((col(0),), join(SCAN_U, SCAN_V, eq(col(0), col(2)), "left")), select((col(0),), SCAN_U)),
        ("eq in an or", select((col(0),), join(SCAN_U, SCAN_T, both(eq(col(0), col(2)), FALSE), "left")), select((col(0),), SCAN_U)),
        ("eq of two right columns", select((col(0),), join(SCAN_U, SCAN_W, eq(col(2), col(4)), "left")), select((col(0),), SCAN_U)),
        ("eq of no columns", select((col(0),), join(SCAN_U, SCAN_T, eq(op("abs", col(0)), col(2)), "left")), select((col(0),), SCAN_U)),
        ("inner", select((col(0),), join(SCAN_U, SCAN_T, eq(col(0), col(2)))), select((col(0),), SCAN_U)),
        ("right", select((col(0),), join(SCAN_U, SCAN_T, eq(col(0), col(2)), "right")), select((col(0),), SCAN_U)),
        ("full", select((col(0),), join(SCAN_U, SCAN_T, eq(col(0), col(2)), "full")), select((col(0),), SCAN_U)),
    ],
    "exists": [
        ("P may fail", where(exists(SCAN_U), FAILING_T), join(FAILING_T, SCAN_U, TRUE, "semi")),
        ("R may fail", where(exists(where(LOW, FAILING_U)), SCAN_T), join(SCAN_T, FAILING_U, op("lt", col(3), num(2)), "semi")),
        ("cond is not safe", where(exists(where(SHAKY, SCAN_U)), SCAN_T), join(SCAN_T, SCAN_U, shaky(3), "semi")),
        ("cond uses a left column that may be a fault", where(exists(where(eq(outer(1, 0), num(1)), SCAN_U)), FAULTY_T),
         join(FAULTY_T, SCAN_U, eq(col(0), num(1)), "semi")),
        ("a plan in d", where(exists(where(exists(SCAN_W), SCAN_U)), SCAN_T), join(SCAN_T, SCAN_U, exists(SCAN_W), "semi")),
        ("a plan deep in d", where(exists(where(conj(LOW, neg(exists(SCAN_W))), SCAN_U)), SCAN_T),
         join(SCAN_T, SCAN_U, conj(op("lt", col(3), num(2)), neg(exists(SCAN_W))), "semi")),
        ("denied", where(neg(exists(SCAN_U)), SCAN_T), join(SCAN_T, SCAN_U, TRUE, "semi")),
        ("anti", where(exists(SCAN_U), SCAN_T), join(SCAN_T, SCAN_U, TRUE, "anti")),
    ],
    "notexists": [
        ("P may fail", where(neg(exists(SCAN_U)), FAILING_T), join(FAILING_T, SCAN_U, TRUE, "anti")),
        ("R may fail", where(neg(exists(where(LOW, FAILING_U))), SCAN_T), join(SCAN_T, FAILING_U, op("lt", col(3), num(2)), "anti")),
        ("cond is not safe", where(neg(exists(where(SHAKY, SCAN_U))), SCAN_T), join(SCAN_T, SCAN_U, shaky(3), "anti")),
        ("a plan in d", where(neg(exists(where(exists(SCAN_W), SCAN_U))), SCAN_T), join(SCAN_T, SCAN_U, exists(SCAN_W), "anti")),
        ("not denied", where(exists(SCAN_U), SCAN_T), join(SCAN_T, SCAN_U, TRUE, "anti")),
    ],
    "within": [
        ("P may fail", where(IN_U, FAILING_T), join(FAILING_T, SCAN_U, conj(TRUE, eq(col(0), col(3))), "semi")),
        ("R may fail", where(inn(col(0), select((col(0),), where(LOW, FAILING_U))), SCAN_T),
         join(SCAN_T, FAILING_U, conj(op("lt", col(3), num(2)), eq(col(0), col(3))), "semi")),
        ("e is not safe", where(inn(op("div", num(1), col(0)), select((col(0),), SCAN_U)), SCAN_T),
         join(SCAN_T, SCAN_U, conj(TRUE, eq(op("div", num(1), col(0)), col(3))), "semi")),
        ("e is a column that may be a fault", where(IN_U, FAULTY_T), join(FAULTY_T, SCAN_U, conj(TRUE, eq(col(0), col(3))), "semi")),
        ("f is not safe", where(inn(col(0), select((op("div", num(1), col(0)),), SCAN_U)), SCAN_T),
         join(SCAN_T, SCAN_U, conj(TRUE, eq(col(0), op("div", num(1), col(3)))), "semi")),
        ("the column of R may be a fault", where(inn(col(0), select((col(0),), FAULTY_U)), SCAN_T),
         join(SCAN_T, FAULTY_U, conj(TRUE, eq(col(0), col(3))), "semi")),
        ("d is not safe", where(inn(col(0), select((col(0),), where(SHAKY, SCAN_U))), SCAN_T),
         join(SCAN_T, SCAN_U, conj(shaky(3), eq(col(0), col(3))), "semi")),
        ("an outer in f", where(inn(col(0), select((outer(1, 0),), SCAN_U)), SCAN_T),
         join(SCAN_T, SCAN_U, conj(TRUE, eq(col(0), col(0))), "semi")),
        ("a plan in d", where(inn(col(0), select((col(0),), where(exists(SCAN_W), SCAN_U))), SCAN_T),
         join(SCAN_T, SCAN_U, conj(exists(SCAN_W), eq(col(0), col(3))), "semi")),
        ("no select", where(inn(col(0), group((col(0),), (), SCAN_U)), SCAN_T),
         join(SCAN_T, SCAN_U, conj(TRUE, eq(col(0), col(3))), "semi")),
        ("denied", where(neg(IN_U), SCAN_T), join(SCAN_T, SCAN_U, conj(TRUE, eq(col(0), col(3))), "anti")),
    ],
    "semi": [
        ("c is not safe", join(SCAN_U, SCAN_T, conj(eq(col(0), col(2)), SHAKY), "semi"),
         select(cols(0, 1), join(SCAN_U, SCAN_T, conj(eq(col(0), col(2)), SHAKY)))),
        ("no key of Q", join(SCAN_T, SCAN_U, KEYED, "semi"), select(cols(0, 1, 2), join(SCAN_T, SCAN_U, KEYED))),
        ("anti", join(SCAN_U, SCAN_T, eq(col(0), col(2)), "anti"), select(cols(0, 1), join(SCAN_U, SCAN_T, eq(col(0), col(2))))),
        ("a part of a key of Q", join(SCAN_U, SCAN_V, eq(col(0), col(2)), "semi"), select(cols(0, 1), join(SCAN_U, SCAN_V, eq(col(0), col(2))))),
    ],
}

# By rule: what is broken, and the plan; what the rule would make of it were no right plan.
NOT_FOUND = {
    "exists": [
        ("an outer in R", where(exists(select((outer(1, 0),), SCAN_U)), SCAN_T)),
        ("an outer in R below d", where(exists(where(LOW, where(eq(outer(1, 0), col(0)), SCAN_U))), SCAN_T)),
        ("an outer of R's own in R", where(exists(select((exists(where(eq(outer(1, 0), col(0)), SCAN_T)),), SCAN_U)), SCAN_T)),
        ("one of the second level in R", where(exists(select((exists(where(eq(outer(2, 0), col(0)), SCAN_T)),), SCAN_U)), SCAN_T)),
        ("one of the second level in d", where(exists(where(exists(where(eq(outer(2, 0), col(0)), SCAN_T)), SCAN_U)), SCAN_T)),
    ],
    "notexists": [
        ("an outer in R", where(neg(exists(select((outer(1, 0),), SCAN_U))), SCAN_T)),
        ("one of the second level", where(neg(exists(where(exists(where(eq(outer(2, 0), col(0)), SCAN_T)), SCAN_U))), SCAN_T)),
        ("denied twice", where(neg(neg(exists(SCAN_U))), SCAN_T)),
        ("not denied, but asked for null", where(op("isnull", exists(SCAN_U)), SCAN_T)),
        ("not denied alone", where(conj(neg(exists(SCAN_U)), LOW), SCAN_T)),
    ],
    "within": [
        ("an outer in R", where(inn(col(0), select((col(0),), select((col(0), outer(1, 0)), SCAN_U))), SCAN_T)),
        ("a plan deep in d", where(inn(col(0), select((col(0),), where(conj(LOW, neg(exists(SCAN_W))), SCAN_U))), SCAN_T)),
        ("a plan deep in f", where(inn(FALSE, select((conj(LOW, neg(exists(SCAN_W))),), SCAN_U)), SCAN_T)),
        ("an outer deep in f", where(inn(col(0), select((op("abs", outer(1, 0)),), SCAN_U)), SCAN_T)),
        ("an outer of the second level", where(inn(col(0), select((col(0),), where(inn(outer(1, 0), select((outer(2, 0),), SCAN_U)), SCAN_U))), SCAN_T)),
        ("a plan in f", where(inn(TRUE, select((exists(SCAN_W),), SCAN_U)), SCAN_T)),
    ],
    "fold": [
        ("a fault", where(eq(op("div", num(1), num(0)), col(0)), SCAN_T)),
        ("in a plan", where(exists(where(conj(TRUE, LOW), SCAN_U)), SCAN_T)),
        ("in a cond of a join", join(SCAN_T, SCAN_U, conj(TRUE, LOW))),
        ("in a group", group((op("add", num(1), num(2)),), (), SCAN_T)),
        ("a second const of a case", select((("case", ((LOW, num(1)), (TRUE, num(2))), num(3)),), SCAN_T)),
        ("true or null", where(conj(NULL, both(NULL, LOW)), SCAN_T)),
    ],
}
ADD = op("add", num(1), num(2))
# What an expression of a where or a select becomes, each at one place.
FOLDED = [
    (conj(TRUE, LOW), [LOW]), (conj(LOW, TRUE), [LOW]), (both(FALSE, LOW), [LOW]), (both(LOW, FALSE), [LOW]),
    (conj(LOW, FALSE), [FALSE]), (conj(FALSE, SHAKY), [FALSE]), (both(SHAKY, TRUE), [TRUE]), (both(TRUE, LOW), [TRUE]),
    (conj(TRUE, FALSE), [FALSE]), (conj(NULL, NULL), [NULL]), (both(NULL, FALSE), [NULL]), (neg(neg(LOW)), [LOW]),
    (neg(neg(neg(LOW))), [neg(LOW)]), (neg(NULL), [NULL]), (eq(ADD, col(0)), [eq(num(3), col(0))]),
    (eq(ADD, op("neg", num(4))), [eq(num(3), op("neg", num(4))), eq(ADD, num(-4))]),
    (op("isnull", NOUGHT), [TRUE]), (eq(NOUGHT, num(1)), [NULL]), (op("like", text("ab"), text("a*")), [TRUE]),
    (op("lt", op("size", text("abc")), col(0)), [op("lt", num(3), col(0))]),
    (op("same", op("coalesce", NOUGHT, num(2)), col(0)), [op("same", num(2), col(0))]),
    (("case", ((TRUE, LOW), (SHAKY, FALSE)), NULL), [LOW]), (("case", ((FALSE, SHAKY), (LOW, TRUE)), NULL), [("case", ((LOW, TRUE),), NULL)]),
    (("case", ((NULL, SHAKY),), LOW), [LOW]), (("case", ((FALSE, SHAKY),), LOW), [LOW]),
    (("case", ((LOW, conj(TRUE, LOW)), (neg(neg(LOW)), TRUE)), eq(ADD, NOUGHT)),
     [("case", ((LOW, LOW), (neg(neg(LOW)), TRUE)), eq(ADD, NOUGHT)),
      ("case", ((LOW, conj(TRUE, LOW)), (LOW, TRUE)), eq(ADD, NOUGHT)),
      ("case", ((LOW, conj(TRUE, LOW)), (neg(neg(LOW)), TRUE)), eq(num(3), NOUGHT))]),
    (inn(ADD, select((ADD,), SCAN_U)), [inn(num(3), select((ADD,), SCAN_U))]),
    (eq(op("div", num(7), num(0)), op("div", num(7), num(2))), [eq(op("div", num(7), num(0)), num(3))]),
    (conj(conj(TRUE, LOW), both(LOW, TRUE)), [conj(LOW, both(LOW, TRUE)), conj(conj(TRUE, LOW), TRUE)]),
]
