"""Plans: when they are right, and what is told of them ([5.1])."""

import unittest

from peristyle.errors import BadKind, NoSuch, TooMuch
from peristyle.plan import joined, kinds, moved, nodes, parts, put_in, used
from tests.plans import (ONE_ROW, SCAN_T, SCAN_U, SCAN_W, SCHEMAS, TRUE, asc, col, cols, group, join, num, op, outer, plan_of,
                         select, text, top, where)

T_KINDS = ("int", "text", "bool")
EQ = op("eq", col(0), col(3))


def told(plan, schemas=SCHEMAS):
    """The kinds of a plan, or the name of its mistake."""
    try:
        return kinds(plan, schemas)
    except BadKind as mistake:
        assert type(mistake) is BadKind and mistake.at == -1
        return "BadKind"
    except NoSuch:
        return "NoSuch"
    except TooMuch:
        return "TooMuch"


def in_t(expr):
    return select([expr], SCAN_T)


def nested(many, inside=SCAN_T):
    for _ in range(many):
        inside = ("distinct", inside)
    return inside


def sums(many):
    """A sum of so many ones, as flat as may be: 2 * many - 1 nodes."""
    if many == 1:
        return num(1)
    return op("add", sums(many // 2), sums(many - many // 2))


class KindsTest(unittest.TestCase):
    def check(self, plan, *wanted):
        self.assertEqual(told(plan), wanted, plan)

    def test_plans(self):
        self.check(SCAN_T, *T_KINDS)
        self.check(("rows", ("int", "bool"), ((1, None), (None, True))), "int", "bool")
        self.check(("rows", (), ((), ())))
        self.check(("rows", ("text",), ()), "text")
        self.check(where(col(2), SCAN_T), *T_KINDS)
        self.check(select([], SCAN_T))
        self.check(select([col(1), num(1), col(2)], SCAN_T), "text", "int", "bool")
        for kind in ("inner", "left", "right", "full"):
            self.check(join(SCAN_T, SCAN_U, EQ, kind), *T_KINDS, "int", "int")
        for kind in ("semi", "anti"):
            self.check(join(SCAN_T, SCAN_U, EQ, kind), *T_KINDS)
        self.check(("distinct", SCAN_U), "int", "int")
        for word in ("union", "except", "meet"):
            self.check((word, SCAN_U, select(cols(1, 0), SCAN_U)), "int", "int")
        self.check(top([asc(1)], None, 0, SCAN_T), *T_KINDS)
        self.check(top([], 3, 10 ** 30, SCAN_T), *T_KINDS)
        self.check(top([(col(2), True, False), (text("x"), False, True)], 0, 0, SCAN_T), *T_KINDS)

    def test_groups(self):
        self.check(group([], [], SCAN_T))
        self.check(group([col(1), op("add", col(0), num(1))], [], SCAN_T), "text", "int")
        aggs = [("rows", False, None), ("count", True, col(1)), ("sum", False, col(0)), ("avg", True, col(0)), ("min", False, col(1)),
                ("max", True, col(2)), ("every", False, col(2)), ("some", True, col(2))]
        self.check(group([col(2)], aggs, SCAN_T), "bool", "int", "int", "int", "int", "text", "bool", "bool", "bool")

    def test_windows(self):
        frame = (("before", 2), ("end", 0))
        funs = (("rows", None, (), (), frame), ("count", col(1), (col(2), col(0)), (asc(1),), None), ("sum", col(0), (), (), frame),
                ("avg", col(0), (), (), None), ("min", col(1), (), (), frame), ("max", col(2), (), (), frame),
                ("every", col(2), (), (), frame), ("some", col(2), (), (), frame), ("rank", None, (), (), None),
                ("dense", None, (), (asc(0),), None), ("place", None, (), (), None), ("lag", col(1), (), (), None),
                ("lead", col(2), (), (), None))
        self.check(("window", funs, SCAN_T), *T_KINDS, "int", "int", "int", "int", "text", "bool", "bool", "bool", "int", "int", "int",
                   "text", "bool")
        self.check(("window", (), SCAN_T), *T_KINDS)

    def test_edges_any_way_round(self):
        edges = (("start", 0), ("before", 0), ("before", 5), ("here", 0), ("after", 0), ("after", 10 ** 20), ("end", 0))
        for first in edges:
            for second in edges:
                self.check(("window", (("sum", col(0), (), (), (first, second)),), SCAN_U), "int", "int", "int")

    def test_expressions(self):
        self.check(in_t(text(None)), "text")
        self.check(in_t(("const", "bool", False)), "bool")
        self.check(in_t(op("part", col(1), num(1), col(0))), "text")
        self.check(in_t(("case", ((col(2), num(1)), (TRUE, col(0))), num(None))), "int")
        self.check(in_t(("case", ((col(2), text("x")),), col(1))), "text")
        self.check(in_t(("scalar", select([col(1)], SCAN_U))), "int")
        self.check(in_t(("exists", SCAN_U)), "bool")
        self.check(in_t(("exists", select([], SCAN_U))), "bool")
        self.check(in_t(("in", col(1), select([col(1)], SCAN_T))), "bool")

    def test_outers(self):
        self.check(in_t(("scalar", select([outer(1, 1)], SCAN_U))), "text")
        deep = ("scalar", select([outer(2, 2)], SCAN_U))
        self.check(in_t(("scalar", select([deep], SCAN_W))), "bool")
        self.check(in_t(("scalar", select([("scalar", select([outer(1, 1)], SCAN_U))], SCAN_W))), "text")
        # In a join the row is that of both sides, in a group that of its input.
        self.check(join(SCAN_T, SCAN_W, ("exists", where(op("eq", outer(1, 4), outer(1, 1)), SCAN_U))), *T_KINDS, "int", "text", "int")
        self.check(group([("scalar", select([outer(1, 2)], ONE_ROW))], [], SCAN_T), "bool")
        inner = where(("exists", where(op("eq", outer(2, 0), outer(1, 1)), SCAN_W)), SCAN_U)
        self.check(where(("exists", inner), SCAN_T), *T_KINDS)
        # Inputs stand within the same queries as what they are inputs of.
        self.check(in_t(("exists", join(where(outer(1, 2), SCAN_U), select([outer(1, 1)], SCAN_W)))), "bool")

    def test_what_the_binder_tells(self):
        self.check(plan_of("SELECT b, count(*) FROM t GROUP BY b ORDER BY 2"), "text", "int")


class NotRightTest(unittest.TestCase):
    def check_bad(self, *plans):
        for plan in plans:
            with self.subTest(plan=plan):
                self.assertEqual(told(plan), "BadKind")

    def test_no_plans(self):
        self.check_bad((), ("scan",), ("scan", "t", "t"), ("scan", 1), ("scan", None), ("scan", ("t",)), ("nothing", SCAN_T), (SCAN_T,),
                       (1, SCAN_T), ((), SCAN_T), "scan", "t", 1, True, None, col(0), num(1), ("distinct",), ("distinct", None),
                       ("distinct", "t"), ("distinct", num(1)), ("where", TRUE), ("where", TRUE, SCAN_T, SCAN_T), ("union", SCAN_T),
                       ("join", "inner", TRUE, SCAN_T), ("select", (), 1), ("top", (), None, 0), ("rows", ("int",)), ("group", (), SCAN_T),
                       ("window", SCAN_T), ("exists", SCAN_T), ("Scan", "t"), ("", "t"))

    def test_rows(self):
        good = ("rows", ("int",), ((1,),) * 2000)
        self.assertEqual(told(good), ("int",))
        self.check_bad(("rows", ("int",), ((1,),) * 2001), ("rows", ("int",), ((1, 2),)), ("rows", ("int",), ((),)), ("rows", ("int",), (1,)),
                       ("rows", ("int",), (("x",),)), ("rows", ("int",), ((True,),)), ("rows", ("bool",), ((1,),)),
                       ("rows", ("int",), ((10 ** 18,),)), ("rows", ("text",), (("%",),)), ("rows", ("text",), (("x" * 201,),)),
                       ("rows", ("number",), ()), ("rows", "int", ()), ("rows", (1,), ()), ("rows", (("int",),), ()),
                       ("rows", ("int",), None), ("rows", None, ()), ("rows", ("int",), ((("fault", 1),),)), ("rows", ("int",), 5))

    def test_where_and_joins(self):
        self.check_bad(where(col(0), SCAN_T), where(col(3), SCAN_T), where(num(None), SCAN_T), where(SCAN_T, SCAN_T), where(None, SCAN_T),
                       join(SCAN_T, SCAN_U, col(0)), join(SCAN_T, SCAN_U, op("eq", col(0), col(5))), join(SCAN_T, SCAN_U, TRUE, "cross"),
                       join(SCAN_T, SCAN_U, TRUE, "Inner"), join(SCAN_T, SCAN_U, TRUE, None), join(SCAN_T, SCAN_U, TRUE, ("inner",)),
                       join(SCAN_T, 1), join(None, SCAN_T), join(SCAN_T, SCAN_U, op("eq", col(0), col(1))))

    def test_selects_and_sets(self):
        self.check_bad(select([col(3)], SCAN_T), ("select", None, SCAN_T), ("select", col(0), SCAN_T), ("select", (None,), SCAN_T),
                       ("select", ("col", 0), SCAN_T), ("union", SCAN_T, SCAN_U), ("except", SCAN_U, select(cols(0), SCAN_U)),
                       ("meet", SCAN_U, select([col(0), text("x")], SCAN_U)), ("union", SCAN_T, 1), ("union", None, None))

    def test_groups(self):
        def agg(*told_agg):
            return group([], [told_agg], SCAN_T)

        self.assertEqual(told(agg("sum", False, col(0))), ("int",))
        self.check_bad(agg("sum", False, col(1)), agg("sum", False, None), agg("sum", 0, col(0)), agg("sum", None, col(0)),
                       agg("avg", False, col(2)), agg("every", False, col(0)), agg("some", True, col(1)), agg("count", False, None),
                       agg("count", False, col(3)), agg("rows", True, None), agg("rows", False, col(0)), agg("rows", False, num(None)),
                       agg("rank", False, None), agg("lag", False, col(0)), agg("total", False, col(0)), agg(1, False, col(0)),
                       agg(None, False, col(0)), agg(("sum",), False, col(0)), agg("sum", col(0)), agg("sum", False, col(0), None),
                       group([col(3)], [], SCAN_T), group([None], [], SCAN_T), ("group", None, (), SCAN_T), ("group", (), None, SCAN_T),
                       ("group", (), (1,), SCAN_T), ("group", (), ("sum", False, col(0)), SCAN_T), agg("min", False, outer(1, 0)))

    def test_windows(self):
        def fun(*told_fun):
            return ("window", (told_fun,), SCAN_T)

        here = (("here", 0), ("here", 0))
        self.assertEqual(told(fun("sum", col(0), (), (), here))[3:], ("int",))
        self.check_bad(fun("nothing", col(0), (), (), None), fun("sum", col(1), (), (), None), fun("sum", None, (), (), None), fun("rank", col(0), (), (), None),
                       fun("rows", col(0), (), (), None), fun("lag", None, (), (), None), fun("nothing", None, (), (), None),
                       fun("rank", None, (), (), here), fun("dense", None, (), (), here), fun("place", None, (), (), here),
                       fun("lag", col(0), (), (), here), fun("lead", col(0), (), (), here), fun("sum", col(0), None, (), None),
                       fun("sum", col(0), (), None, None), fun("sum", col(0), (col(3),), (), None), fun("sum", col(0), (None,), (), None),
                       fun("sum", col(0), (), (col(0),), None), fun("sum", col(0), (), ((col(0), 1, False),), None),
                       fun("sum", col(0), (), ((col(0), False),), None), fun("sum", col(0), (), (asc(3),), None),
                       fun("sum", col(0), (), ()), fun("sum", col(0), (), (), None, None), fun(1, None, (), (), None),
                       fun("every", col(0), (), (), None), ("window", None, SCAN_T), ("window", (1,), SCAN_T))
        for frame in [(), (("here", 0),), here + (("here", 0),), 1, ("here", 0), (("here", 0), None), (("here",), ("here", 0)),
                      (("here", 1), ("here", 0)), (("before", -1), ("here", 0)), (("after", True), ("here", 0)), (("start", 2), ("here", 0)),
                      (("middle", 0), ("here", 0)), ((0, 0), ("here", 0)), (("before", None), ("here", 0)), (("here", 0, 0), ("here", 0)),
                      (("end", 0), ("end", 1)), (("before", "1"), ("here", 0)), True]:
            self.check_bad(fun("sum", col(0), (), (), frame))

    def test_tops(self):
        self.check_bad(top([asc(3)], None, 0, SCAN_T), top([(col(0), 1, False)], None, 0, SCAN_T), top([(col(0), False, None)], None, 0, SCAN_T),
                       top([(col(0), False)], None, 0, SCAN_T), top([col(0)], None, 0, SCAN_T), top([], -1, 0, SCAN_T),
                       top([], None, -1, SCAN_T), top([], True, 0, SCAN_T), top([], None, False, SCAN_T), top([], "1", 0, SCAN_T),
                       top([], None, None, SCAN_T), ("top", None, None, 0, SCAN_T), ("top", asc(0), None, 0, SCAN_T), top([1], None, 0, SCAN_T))

    def test_expressions(self):
        for expr in [(), ("col",), col(-1), col(3), col(True), col(None), col("0"), ("col", 0, 0), ("const", "int"), ("const", "int", True),
                     ("const", "int", "x"), ("const", "bool", 1), ("const", "text", 5), ("const", "text", "%"), ("const", "int", 10 ** 18),
                     ("const", "number", 1), ("const", "number", None), ("const", None, None), ("const", ("int",), 1), ("op", "add"), op("add", num(1)),
                     op("add", num(1), num(1), num(1)), op("add", num(1), text("x")), op("eq", num(1), text("x")), op("nothing", num(1)),
                     op("in", num(1)), ("op", "neg", num(1)), ("op", "neg", None), ("op", ("neg",), (num(1),)), ("op", None, ()),
                     ("op", "neg", (1,)), ("case", (), num(1)), ("case", ((num(1), num(1)),), num(1)),
                     ("case", ((TRUE, num(1)),), text("x")), ("case", ((TRUE, num(1)), (TRUE, text("x"))), num(1)), ("case", ((TRUE, num(1)),)),
                     ("case", (TRUE, num(1)), num(1)), ("case", ((TRUE,),), num(1)), ("case", None, num(1)), ("case", ((TRUE, num(1)),), None),
                     ("scalar", SCAN_T), ("scalar", select([], SCAN_T)), ("scalar", num(1)), ("scalar", None), ("scalar",),
                     ("exists", num(1)), ("exists", "t"), ("exists", SCAN_T, SCAN_T), ("in", num(1), SCAN_T), ("in", num(1), select([], SCAN_T)),
                     ("in", text("x"), select(cols(0), SCAN_T)), ("in", select(cols(0), SCAN_T)), ("in", None, select(cols(0), SCAN_T)),
                     outer(1, 0), outer(0, 0), SCAN_T, None, 1, "x", True, ("fault", 1), ("agg", 0)]:
            self.check_bad(in_t(expr))

    def test_outers_that_lead_too_far(self):
        for expr in [outer(2, 0), outer(0, 0), outer(-1, 0), outer(True, 0), outer(1, 3), outer(1, -1), outer(1, True), outer(None, 0),
                     ("outer", 1), ("outer", 1, 0, 0)]:
            self.check_bad(in_t(("scalar", select([expr], SCAN_U))))
        self.assertEqual(told(in_t(("scalar", select([outer(1, 2)], SCAN_U)))), ("bool",))
        self.check_bad(in_t(("scalar", select([("scalar", select([outer(3, 0)], SCAN_U))], SCAN_U))))
        # In a query in FROM the row of the other side is not around.
        self.check_bad(join(SCAN_T, select([outer(1, 0)], SCAN_U)))


class OrderTest(unittest.TestCase):
    """NoSuch, then TooMuch for what cannot be looked at, BadKind, TooMuch for the bounds."""

    GONE = ("scan", "gone")
    WRONG = select([col(9)], SCAN_T)

    def test_no_such_table(self):
        self.assertEqual(told(self.GONE), "NoSuch")
        self.assertEqual(told(SCAN_T, ()), "NoSuch")
        self.assertEqual(told(("scan", "")), "NoSuch")
        for plan in [join(SCAN_T, self.GONE), ("distinct", self.GONE), where(("exists", self.GONE), SCAN_T),
                     select([("scalar", self.GONE)], SCAN_T), group([("exists", self.GONE)], [], SCAN_T),
                     group([], [("sum", False, ("scalar", self.GONE))], SCAN_T), top([(("exists", self.GONE), False, False)], None, 0, SCAN_T),
                     ("window", (("rows", None, (("exists", self.GONE),), (), None),), SCAN_T),
                     ("window", (("rows", None, (), ((("exists", self.GONE), False, False),), None),), SCAN_T),
                     select([("case", ((("exists", self.GONE), num(1)),), num(1))], SCAN_T),
                     select([("in", num(1), self.GONE)], SCAN_T), select([op("not", ("exists", self.GONE))], SCAN_T)]:
            self.assertEqual(told(plan), "NoSuch", plan)

    def test_no_such_table_goes_before_the_others(self):
        self.assertEqual(told(("union", self.WRONG, self.GONE)), "NoSuch")
        self.assertEqual(told(where(num(1), self.GONE)), "NoSuch")
        self.assertEqual(told(("union", nested(70), self.GONE)), "NoSuch")
        self.assertEqual(told(join(select([num(1)] * 25, SCAN_T), self.GONE)), "NoSuch")
        self.assertIn(told(("union", nested(120), self.GONE)), ("NoSuch", "TooMuch"))

    def test_what_is_no_table(self):
        self.assertEqual(told(("scan", 5)), "BadKind")
        self.assertEqual(told(("rows", ("text", "text"), (("scan", "gone"),))), ("text", "text"))
        self.assertEqual(told(("scan", "gone", 1)), "BadKind")

    def test_too_much_to_look_at(self):
        wrong = ("distinct", 1)
        self.assertEqual(told(nested(98, wrong)), "BadKind")
        self.assertEqual(told(nested(99, wrong)), "BadKind")
        self.assertEqual(told(nested(100, wrong)), "TooMuch")
        self.assertEqual(told(nested(99)), "TooMuch")
        self.assertEqual(told(nested(20000, wrong)), "TooMuch")
        exprs = num(1)
        for _ in range(99):
            exprs = op("neg", exprs)
        self.assertEqual(told(select([exprs], SCAN_T)), "TooMuch")
        self.assertEqual(told(select([exprs], 1)), "TooMuch")
        self.assertEqual(told(select([exprs[2][0]], 1)), "BadKind")

    def test_fifty_thousand_tuples(self):
        def plan(many):
            # The select, its tuple of expressions, and two for each of these.
            return ("select", (op("nothing"),) * ((many - 2) // 2) + ((),) * (many % 2), 1)

        self.assertEqual(told(plan(49998)), "BadKind")
        self.assertEqual(told(plan(50000)), "BadKind")
        self.assertEqual(told(plan(50001)), "TooMuch")
        self.assertEqual(told(plan(60000)), "TooMuch")
        huge = num(1)
        for _ in range(80):
            huge = op("add", huge, huge)
        self.assertEqual(told(select([huge], SCAN_T)), "TooMuch")

    def test_rows_do_not_count(self):
        many = ("rows", (("int",) * 24), (((1,) * 24),) * 2000)
        self.assertEqual(told(("union", many, ("union", many, many))), ("int",) * 24)
        plan = SCAN_U
        for _ in range(30):
            plan = ("union", plan, ("rows", ("int", "int"), ((1, 2),) * 2000))
        self.assertEqual(told(plan), ("int", "int"))
        deep = ()
        for _ in range(5000):
            deep = (deep,)
        self.assertEqual(told(("rows", ("int",), deep)), "BadKind")
        # The function of a window has this word, too, but there are expressions in it.
        inside = ("exists", nested(99))
        self.assertEqual(told(("window", (("rows", None, (inside,), (), None),), SCAN_T)), "TooMuch")

    def test_tuples_with_other_texts_do_not_count_as_nested(self):
        other = ()
        for _ in range(150):
            other = ("count", other)
        self.assertEqual(told(("distinct", other)), "BadKind")
        self.assertEqual(told(other), "BadKind")

    def test_what_is_nested_but_begins_with_no_word(self):
        deep = ()
        for _ in range(40000):
            deep = (deep,)
        for plan in [deep, ("distinct", deep), ("select", deep, SCAN_T), ("scan", deep), select([("const", deep, 1)], SCAN_T),
                     select([("const", "int", deep)], SCAN_T), select([("op", deep, ())], SCAN_T), select([("op", "add", deep)], SCAN_T),
                     (deep, SCAN_T), ("join", deep, TRUE, SCAN_T, SCAN_U), group([], [(deep, False, None)], SCAN_T),
                     top([], deep, 0, SCAN_T), ("rows", deep, ()), ("window", ((deep, None, (), (), None),), SCAN_T), select([col(deep)], SCAN_T),
                     ("window", (("sum", col(0), (), (), (("here", 0), (deep, 0))),), SCAN_T), select([outer(deep, 0)], SCAN_T)]:
            self.assertEqual(told(plan), "BadKind")

    def test_bounds(self):
        self.assertEqual(told(nested(59)), T_KINDS)
        self.assertEqual(told(nested(60)), "TooMuch")
        self.assertEqual(told(select([num(1)] * 24, SCAN_T)), ("int",) * 24)
        self.assertEqual(told(select([num(1)] * 25, SCAN_T)), "TooMuch")
        self.assertEqual(told(select([], select([num(1)] * 25, SCAN_T))), "TooMuch")
        self.assertEqual(told(where(("exists", select([num(1)] * 25, SCAN_T)), SCAN_T)), "TooMuch")
        self.assertEqual(told(select([sums(998)], ("rows", (), ()))), ("int",))
        eight = select([num(1)] * 8, SCAN_U)
        self.assertEqual(len(told(join(eight, join(eight, eight)))), 24)
        self.assertEqual(told(join(SCAN_U, join(eight, join(eight, eight)), kind="semi")), ("int", "int"))
        self.assertEqual(told(join(join(eight, join(eight, eight)), SCAN_U, kind="left")), "TooMuch")
        self.assertEqual(told(("rows", ("int",) * 25, ())), "TooMuch")
        self.assertEqual(told(group([num(1)] * 20, [("rows", False, None)] * 4, SCAN_T)), ("int",) * 24)
        self.assertEqual(told(group([num(1)] * 20, [("rows", False, None)] * 5, SCAN_T)), "TooMuch")
        self.assertEqual(len(told(("window", (("rows", None, (), (), None),) * 21, SCAN_T))), 24)
        self.assertEqual(told(("window", (("rows", None, (), (), None),) * 22, SCAN_T)), "TooMuch")

    def test_two_thousand_nodes(self):
        plan = select([sums(500), sums(499), num(1)], SCAN_U)
        self.assertEqual(nodes(plan), 2 + 999 + 997 + 1)
        self.assertEqual(told(plan), ("int",) * 3)
        self.assertEqual(told(select([num(1), *plan[1]], SCAN_U)), ("int",) * 4)
        self.assertEqual(told(select([num(1), num(1), *plan[1]], SCAN_U)), "TooMuch")

    def test_bad_kind_goes_before_the_bounds(self):
        self.assertEqual(told(nested(70, self.WRONG)), "BadKind")
        self.assertEqual(told(select([num(1)] * 25 + [col(9)], SCAN_T)), "BadKind")
        self.assertEqual(told(select([sums(2000), col(9)], SCAN_T)), "BadKind")

    def test_levels_of_expressions_count(self):
        expr = TRUE
        for _ in range(58):
            expr = op("not", expr)
        self.assertEqual(told(select([expr], SCAN_T)), ("bool",))
        self.assertEqual(told(select([op("not", expr)], SCAN_T)), "TooMuch")
        deep = SCAN_T
        for _ in range(29):
            deep = where(("exists", deep), ONE_ROW)
        self.assertEqual(told(deep), ())
        self.assertEqual(told(("distinct", ("distinct", deep))), "TooMuch")


class NodesTest(unittest.TestCase):
    def test_nodes(self):
        self.assertEqual(nodes(SCAN_T), 1)
        self.assertEqual(nodes(ONE_ROW), 1)
        self.assertEqual(nodes(where(TRUE, SCAN_T)), 3)
        self.assertEqual(nodes(select(cols(0, 1), SCAN_T)), 4)
        self.assertEqual(nodes(select([op("add", num(1), op("neg", col(0)))], SCAN_T)), 6)
        self.assertEqual(nodes(select([("case", ((TRUE, num(1)), (TRUE, num(2))), num(3))], SCAN_T)), 8)
        self.assertEqual(nodes(join(SCAN_T, SCAN_U, EQ)), 6)
        self.assertEqual(nodes(select([("in", col(0), select(cols(0), SCAN_U))], SCAN_T)), 7)
        self.assertEqual(nodes(where(("exists", where(outer(1, 2), SCAN_U)), SCAN_T)), 6)

    def test_orders_aggs_and_edges_are_none(self):
        self.assertEqual(nodes(group([col(0)], [("rows", False, None), ("sum", False, col(1))], SCAN_U)), 4)
        self.assertEqual(nodes(top([asc(0), asc(1)], 1, 1, SCAN_T)), 4)
        fun = ("sum", col(0), (col(1),), (asc(0),), (("start", 0), ("here", 0)))
        self.assertEqual(nodes(("window", (fun, ("rows", None, (), (), None)), SCAN_U)), 5)

    def test_what_stands_twice_counts_twice(self):
        self.assertEqual(nodes(("union", ("union", SCAN_T, SCAN_T), ("union", SCAN_T, SCAN_T))), 7)


class ExpressionsTest(unittest.TestCase):
    # Two plans in one another, with names of this row and of one further out.
    DEEP = ("scalar", select([op("add", outer(1, 2), col(0)), ], where(("exists", where(op("eq", outer(2, 1), outer(1, 0)), SCAN_T)), where(
        op("eq", outer(2, 5), outer(1, 4)), SCAN_U))))

    def test_used(self):
        self.assertEqual(used(num(1)), ())
        self.assertEqual(used(col(3)), (3,))
        self.assertEqual(used(outer(1, 3)), ())
        self.assertEqual(used(op("add", col(5), op("mul", col(1), col(5)))), (1, 5))
        self.assertEqual(used(("case", ((col(2), col(9)),), col(0))), (0, 2, 9))
        self.assertEqual(used(("exists", where(op("eq", col(7), outer(1, 3)), SCAN_T))), (3,))
        self.assertEqual(used(("in", col(1), select([outer(1, 0), ], SCAN_T))), (0, 1))
        self.assertEqual(used(self.DEEP), (1, 2, 4))

    def test_used_in_each_part_of_a_plan(self):
        plans = [where(outer(1, 1), SCAN_T), select([outer(1, 1)], SCAN_T), join(SCAN_T, SCAN_T, outer(1, 1)), group([outer(1, 1)], [], SCAN_T),
                 group([], [("rows", False, None), ("sum", False, outer(1, 1))], SCAN_T), top([(outer(1, 1), True, True)], 1, 2, SCAN_T),
                 ("window", (("sum", outer(1, 1), (), (), None),), SCAN_T), ("window", (("rows", None, (outer(1, 1),), (), None),), SCAN_T),
                 ("window", (("rows", None, (), ((outer(1, 1), False, True),), (("start", 0), ("here", 0))),), SCAN_T),
                 ("union", SCAN_T, where(outer(1, 1), SCAN_T)), ("distinct", where(outer(1, 1), SCAN_T))]
        for plan in plans:
            for expr in (("scalar", plan), ("exists", plan), ("in", num(1), plan)):
                self.assertEqual(used(expr), (1,))
                self.assertEqual(str(moved(expr, (9, 8))), str(expr).replace("('outer', 1, 1)", "('outer', 1, 8)"))
                self.assertEqual(str(put_in(expr, (None, op("neg", col(3))))), str(expr).replace(
                    "('outer', 1, 1)", "('op', 'neg', (('outer', 1, 3),))"))

    def test_put_in(self):
        exprs = [num(7), op("add", col(2), outer(1, 3)), col(0)]
        self.assertEqual(put_in(col(1), exprs), exprs[1])
        self.assertEqual(put_in(num(5), exprs), num(5))
        self.assertEqual(put_in(outer(2, 1), exprs), outer(2, 1))
        self.assertEqual(put_in(op("mul", col(2), col(0)), exprs), op("mul", col(0), num(7)))
        self.assertEqual(put_in(("case", ((col(1), col(2)),), col(0)), exprs), ("case", ((exprs[1], col(0)),), num(7)))

    def test_put_in_plans(self):
        exprs = [num(7), op("add", col(2), outer(1, 3))]
        inner = select([op("mul", outer(1, 1), col(1)), outer(1, 0), outer(2, 1)], SCAN_T)
        self.assertEqual(put_in(("exists", inner), exprs), ("exists", select(
            [op("mul", op("add", outer(1, 2), outer(2, 3)), col(1)), num(7), outer(2, 1)], SCAN_T)))
        deep = ("exists", where(("exists", where(op("and", outer(2, 1), outer(1, 1)), SCAN_U)), SCAN_T))
        self.assertEqual(put_in(deep, exprs), ("exists", where(("exists", where(
            op("and", op("add", outer(2, 2), outer(3, 3)), outer(1, 1)), SCAN_U)), SCAN_T)))

    def test_put_in_expressions_with_plans(self):
        """The outers of what is put in lead as far out as before."""
        scalar = ("scalar", select([op("add", op("add", outer(1, 4), col(0)), outer(2, 5))], SCAN_T))
        self.assertEqual(put_in(col(0), [scalar]), scalar)
        told_inside = ("scalar", select([op("add", op("add", outer(2, 4), col(0)), outer(3, 5))], SCAN_T))
        self.assertEqual(put_in(("exists", where(outer(1, 0), SCAN_U)), [scalar]), ("exists", where(told_inside, SCAN_U)))
        deep = ("scalar", select([("scalar", select([op("add", outer(1, 0), op("add", outer(2, 1), outer(3, 2)))], SCAN_U))], SCAN_T))
        told_inside = ("scalar", select([("scalar", select([op("add", outer(1, 0), op("add", outer(3, 1), outer(4, 2)))], SCAN_U))], SCAN_T))
        self.assertEqual(put_in(("exists", where(outer(1, 0), SCAN_U)), [deep]), ("exists", where(told_inside, SCAN_U)))
        expr = ("in", col(0), select([outer(1, 0)], SCAN_U))
        self.assertEqual(put_in(expr, [col(6)]), ("in", col(6), select([outer(1, 6)], SCAN_U)))

    def test_moved(self):
        self.assertEqual(moved(op("add", col(0), col(2)), (5, 6, 7)), op("add", col(5), col(7)))
        self.assertEqual(moved(col(1), [3, 4]), col(4))
        self.assertEqual(moved(outer(1, 1), (5, 6)), outer(1, 1))
        shifted = moved(self.DEEP, tuple(range(10, 20)))
        self.assertEqual(used(shifted), (11, 12, 14))
        self.assertEqual(moved(shifted, {index: index - 10 for index in range(10, 20)}), self.DEEP)

    def test_what_is_handed_in_stays(self):
        places = [1, 0]
        exprs = [num(1), col(0)]
        expr = op("add", col(0), col(1))
        moved(expr, places)
        put_in(expr, exprs)
        self.assertEqual((places, exprs, expr), ([1, 0], [num(1), col(0)], op("add", col(0), col(1))))

    def test_parts(self):
        a, b, c, d = [op("isnull", col(index)) for index in range(4)]
        self.assertEqual(parts(a), [a])
        self.assertEqual(parts(op("and", a, b)), [a, b])
        self.assertEqual(parts(op("and", op("and", a, b), op("and", c, d))), [a, b, c, d])
        self.assertEqual(parts(op("and", a, op("and", b, op("and", c, d)))), [a, b, c, d])
        self.assertEqual(parts(op("or", op("and", a, b), c)), [op("or", op("and", a, b), c)])
        self.assertEqual(parts(op("and", op("not", op("and", a, b)), c)), [op("not", op("and", a, b)), c])
        self.assertEqual(parts(TRUE), [TRUE])
        told_parts = parts(op("and", a, a))
        told_parts.append(b)
        self.assertEqual(parts(op("and", a, a)), [a, a])

    def test_joined(self):
        a, b, c = [op("isnull", col(index)) for index in range(3)]
        self.assertEqual(joined([]), TRUE)
        self.assertEqual(joined(()), TRUE)
        self.assertEqual(joined([a]), a)
        self.assertEqual(joined([a, b, c]), op("and", op("and", a, b), c))
        conds = [a, b]
        joined(conds)
        self.assertEqual(conds, [a, b])
        self.assertEqual(parts(joined([a, b, c])), [a, b, c])


if __name__ == "__main__":
    unittest.main()
