"""Kinds, null literals, refusals and their order ([5.3], [5.5], [5.6])."""

import itertools
import unittest

from peristyle.errors import BadKind, BadName, TooMuch
from peristyle.grammar import parse
from peristyle.binder import bind
from peristyle.plan import kinds, nodes
from tests.plans import SCHEMAS, SCAN_T, TRUE, bound, col, num, op, plan_of, select, text
from tests.trees import outcome

# Something of each kind, also where names of t are known.
OF_KIND = {"int": ("1", "a", "a + 1"), "text": ("'x'", "b", "b || 'x'"), "bool": ("TRUE", "c", "NOT c")}
ARGS = {
    "{} + {}": ("int", "int"), "{} - {}": ("int", "int"), "{} * {}": ("int", "int"), "{} / {}": ("int", "int"),
    "mod({}, {})": ("int", "int"), "- {}": ("int",), "abs({})": ("int",), "{} || {}": ("text", "text"),
    "size({})": ("text",), "upper({})": ("text",), "lower({})": ("text",), "part({}, {}, {})": ("text", "int", "int"),
    "{} LIKE {}": ("text", "text"), "number({})": ("text",), "words({})": ("int",), "NOT {}": ("bool",),
    "{} AND {}": ("bool", "bool"), "{} OR {}": ("bool", "bool"), "CASE WHEN {} THEN 1 END": ("bool",),
    "sum({})": ("int",), "avg({})": ("int",), "every({})": ("bool",), "some({})": ("bool",),
    "sum({}) OVER ()": ("int",), "avg({}) OVER ()": ("int",), "every({}) OVER ()": ("bool",), "some({}) OVER ()": ("bool",),
}
ALIKE = ["{} = {}", "{} <> {}", "{} < {}", "{} <= {}", "{} > {}", "{} >= {}", "coalesce({}, {})", "nullif({}, {})", "most({}, {})",
         "least({}, {})", "{} IN ({})", "CASE WHEN TRUE THEN {} ELSE {} END", "CASE WHEN TRUE THEN {} WHEN c THEN {} END"]


def wide(many, name="v"):
    """A schema with so many columns."""
    return (name, tuple((f"{name}{index}", "int", False) for index in range(many)), ())


class MistakesTest(unittest.TestCase):
    def check_bad(self, query, name, place, schemas=SCHEMAS):
        at = place if isinstance(place, int) else query.rindex(place)
        self.assertEqual(outcome(bound, query, schemas), (name, at), query)

    def check_too_much(self, query, schemas=SCHEMAS):
        self.assertEqual(outcome(bound, query, schemas), "TooMuch", query)


class KindsTest(MistakesTest):
    def test_arguments_of_one_kind_each(self):
        for written, wanted in ARGS.items():
            right = [OF_KIND[kind][0] for kind in wanted]
            self.assertEqual(len(bound(f"SELECT {written.format(*right)} FROM t")), 2)
            for place, kind in enumerate(wanted):
                for other in OF_KIND:
                    args = list(right)
                    args[place] = "(" + OF_KIND[other][1] + ")"
                    query = f"SELECT {written.format(*args)} FROM t"
                    self.assertEqual(parse(query)[0], "query")
                    if other == kind:
                        self.assertEqual(len(bound(query)), 2)
                    else:
                        self.check_bad(query, "BadKind", query.index(args[place]) + 1)

    def test_arguments_that_are_alike(self):
        for written in ALIKE:
            for first, second in itertools.product(OF_KIND, OF_KIND):
                query = f"SELECT {written.format(OF_KIND[first][0], '(' + OF_KIND[second][2] + ')')} FROM t"
                if first == second:
                    self.assertEqual(len(bound(query)), 2)
                else:
                    self.check_bad(query, "BadKind", query.index("(" + OF_KIND[second][2]) + 1)

    def test_any_kind(self):
        for kind, told in OF_KIND.items():
            for written in ("{} IS NULL", "count({})", "min({})", "max({}) OVER ()", "lag({}) OVER ()", "lead({}) OVER ()", "count({}) OVER ()"):
                plan = plan_of(f"SELECT {written.format(told[1])} FROM t")
                expected = "bool" if "IS" in written else "int" if "count" in written else kind
                self.assertEqual(kinds(plan, SCHEMAS), (expected,))

    def test_is_true(self):
        self.check_bad("SELECT a IS TRUE FROM t", "BadKind", "IS")
        self.check_bad("SELECT b IS NOT FALSE FROM t", "BadKind", "IS")

    def test_between(self):
        self.check_bad("SELECT a BETWEEN 'x' AND 2 FROM t", "BadKind", "'x'")
        self.check_bad("SELECT a BETWEEN 1 AND 'x' FROM t", "BadKind", "'x'")
        self.check_bad("SELECT a IN (1, 2, 'x', TRUE) FROM t", "BadKind", "'x'")

    def test_case(self):
        self.check_bad("SELECT CASE WHEN c THEN 1 WHEN c THEN 'x' ELSE TRUE END FROM t", "BadKind", "'x'")
        self.check_bad("SELECT CASE WHEN c THEN NULL WHEN c THEN 'x' ELSE 1 END FROM t", "BadKind", "1 END")
        self.check_bad("SELECT CASE WHEN c THEN 1 WHEN a THEN 'x' END FROM t", "BadKind", "a THEN")

    def test_conds(self):
        for query in ("SELECT 1 FROM t WHERE {}", "SELECT 1 FROM t HAVING {}", "SELECT 1 FROM t JOIN u ON {}"):
            self.check_bad(query.format("1"), "BadKind", query.index("{}"))
            self.check_bad(query.format("(('x'))"), "BadKind", query.index("{}") + 2)
            self.assertEqual(len(bound(query.format("TRUE"))), 2)

    def test_nested_queries(self):
        self.check_bad("SELECT 1 + 2 * (SELECT 'x')", "BadKind", "(SELECT")
        self.check_bad("SELECT (SELECT 1, 2)", "BadKind", "(SELECT")
        self.check_bad("SELECT 1 WHERE 'x' IN (SELECT 1)", "BadKind", "'x'")
        self.check_bad("SELECT 1 WHERE 'x' NOT IN (SELECT 1)", "BadKind", "'x'")
        self.check_bad("SELECT 1 WHERE NULL IN (SELECT 1, 2)", "BadKind", "NULL")
        self.check_bad("SELECT 1 WHERE EXISTS (SELECT 1) = 1", "BadKind", "1")
        self.check_bad("SELECT 1 WHERE 1 + 'x' IN (SELECT q)", "BadKind", "'x'")
        self.check_bad("SELECT 1 WHERE 1 IN (SELECT q)", "BadName", "q")


class NullsTest(unittest.TestCase):
    def check(self, written, expr):
        self.assertEqual(plan_of(f"SELECT {written} FROM t"), select([expr], SCAN_T), written)

    def test_places_that_ask_for_a_kind(self):
        for written, wanted in ARGS.items():
            if "(" in written and "OVER" in written or written.startswith(("sum", "avg", "every", "some")):
                continue
            plan = plan_of(f"SELECT {written.format(*['NULL'] * len(wanted))} FROM t")
            self.assertEqual([part[1] for part in _consts(plan) if part[2] is None][:len(wanted)], list(wanted), written)

    def test_calls(self):
        for name, kind in (("sum", "int"), ("avg", "int"), ("every", "bool"), ("some", "bool"), ("count", "int"), ("min", "int")):
            plan = plan_of(f"SELECT {name}(NULL) FROM t")
            self.assertEqual(plan[2][2], ((name, False, ("const", kind, None)),))
            plan = plan_of(f"SELECT {name}(NULL) OVER () FROM t")
            self.assertEqual(plan[2][1][0][:2], (name, ("const", kind, None)))

    def test_beside_others(self):
        for sign, name in (("=", "eq"), ("<>", "ne"), ("<", "lt"), (">=", "ge")):
            self.check(f"NULL {sign} b", op(name, text(None), col(1)))
            self.check(f"b {sign} NULL", op(name, col(1), text(None)))
            self.check(f"NULL {sign} NULL", op(name, num(None), num(None)))
        for name in ("coalesce", "nullif", "most", "least"):
            self.check(f"{name}(NULL, c)", op(name, ("const", "bool", None), col(2)))
            self.check(f"{name}(c, NULL)", op(name, col(2), ("const", "bool", None)))
            self.check(f"{name}(NULL, NULL)", op(name, num(None), num(None)))
        self.check("NULL IS TRUE", op("same", ("const", "bool", None), TRUE))
        self.check("NULL IS NULL", op("isnull", num(None)))
        self.check("coalesce(NULL, NULL) IS NULL", op("isnull", op("coalesce", num(None), num(None))))

    def test_case(self):
        null = ("const", "text", None)
        self.check("CASE WHEN c THEN NULL WHEN c THEN 'x' END", ("case", ((col(2), null), (col(2), text("x"))), null))
        self.check("CASE WHEN c THEN NULL ELSE 'x' END", ("case", ((col(2), null),), text("x")))
        self.check("CASE WHEN NULL THEN NULL END", ("case", ((("const", "bool", None), num(None)),), num(None)))

    def test_in(self):
        inner = select([text("x")], ("rows", (), ((),)))
        self.check("NULL IN (SELECT 'x')", ("in", text(None), inner))
        self.check("NULL IN ('x', NULL)", op("or", op("eq", text(None), text("x")), op("eq", num(None), num(None))))

    def test_where_nothing_asks(self):
        self.check("NULL", num(None))
        null = ("const", "bool", None)
        self.assertEqual(plan_of("SELECT 1 FROM t WHERE NULL"), select([num(1)], ("where", null, SCAN_T)))
        self.assertEqual(plan_of("SELECT 1 FROM t HAVING NULL"), select([num(1)], ("where", null, ("group", (), (), SCAN_T))))
        self.assertEqual(plan_of("SELECT 1 FROM t JOIN u ON NULL")[2][2], null)
        self.assertEqual(plan_of("SELECT 1 FROM t GROUP BY NULL")[2][1], (num(None),))

    def test_kinds_do_not_come_from_further_out(self):
        self.assertEqual(outcome(bound, "SELECT coalesce(NULL, NULL) || 'x'"), ("BadKind", 7))
        self.assertEqual(outcome(bound, "SELECT 'x' IN (SELECT NULL)"), ("BadKind", 7))
        self.assertEqual(outcome(bound, "SELECT 'x' = NULL + 1"), ("BadKind", 13))


def _consts(plan):
    """All constants in a plan, from the left."""
    if not isinstance(plan, tuple):
        return []
    if plan and plan[0] == "const":
        return [plan]
    return [found for part in plan for found in _consts(part)]


class CallsTest(MistakesTest):
    def test_calls_that_are_wrong_as_a_whole(self):
        for call in ["sum()", "sum(a, a)", "sum(*)", "count()", "count(a, b)", "min(*)", "every(c, c)", "rank()", "rank(a)", "dense()",
                     "place()", "lag(a)", "lead(a)", "f()", "f(a)", "f(*)", "f(DISTINCT a)", "eq(a, a)", "add(1, 2)", "isnull(a)",
                     "neg(1)", "same(a, a)", "mod(1)", "mod(a, a, a)", "abs()", "abs(1, 2)",
                     "size(DISTINCT b)", "upper(*)", "part(b, 1)", "coalesce(a)", "coalesce(a, a, a)", "nullif()", "most(*)",
                     "sum(a, a) OVER ()", "count(DISTINCT a) OVER ()", "sum(DISTINCT a) OVER ()", "sum(*) OVER ()", "sum() OVER ()",
                     "rank(a) OVER ()", "rank(*) OVER ()", "rank(DISTINCT a) OVER ()", "dense(a) OVER ()", "place(1) OVER ()",
                     "lag() OVER ()", "lag(a, 1) OVER ()", "lag(*) OVER ()", "lead(DISTINCT a) OVER ()", "f() OVER ()", "abs(a) OVER ()",
                     "mod(a, 2) OVER ()", "rank() OVER (ROWS BETWEEN CURRENT ROW AND CURRENT ROW)",
                     "lag(a) OVER (ROWS BETWEEN CURRENT ROW AND CURRENT ROW)", "place() OVER (ROWS BETWEEN CURRENT ROW AND CURRENT ROW)",
                     "dense() OVER (ROWS BETWEEN CURRENT ROW AND CURRENT ROW)",
                     "lead(a) OVER (ROWS BETWEEN UNBOUNDED PRECEDING AND UNBOUNDED FOLLOWING)"]:
            for query in (f"SELECT 1, {call} FROM t", f"SELECT 1 FROM t ORDER BY {call}"):
                self.check_bad(query, "BadKind", call)

    def test_before_their_arguments(self):
        for call in ["sum(q, q)", "f(q)", "f(sum(q))", "mod(q)", "rank(q) OVER ()", "f(q) OVER (ORDER BY q)",
                     "sum(1 + 'x', 2)", "sum(q) OVER (ROWS BETWEEN CURRENT ROW AND UNBOUNDED PRECEDING)", "rank()", "lag(q)",
                     "count(DISTINCT q) OVER ()", "rank(sum('x')) OVER ()", "f((SELECT q))", "mod(rank() OVER (ORDER BY q))"]:
            self.check_bad(f"SELECT {call} FROM t", "BadKind", 7)

    def test_where_no_call_may_stand(self):
        for call in ("count(*)", "sum(a)", "sum(q)", "rank() OVER ()", "sum(q) OVER ()", "f(q)"):
            for query in ("SELECT 1 FROM t WHERE {} > 0", "SELECT 1 FROM t x JOIN t ON 1 = {}", "SELECT 1 FROM t GROUP BY {}",
                          "SELECT sum(a + {}) FROM t", "SELECT sum(-{}) OVER () + 1 FROM t" if "OVER" in call else "SELECT 1 FROM t WHERE -{} = 1",
                          "SELECT 1 FROM t HAVING {} > 0" if "OVER" in call else "SELECT 1 FROM t GROUP BY a, {}"):
                self.check_bad(query.format(call), "BadKind", query.index("{}"))

    def test_inside_one_another(self):
        self.check_bad("SELECT sum(sum(a)) FROM t", "BadKind", "sum(a")
        self.check_bad("SELECT sum(sum('x')) FROM t", "BadKind", "sum('x")
        self.check_bad("SELECT sum(rank() OVER ()) FROM t", "BadKind", "rank")
        self.check_bad("SELECT sum(rank() OVER ()) OVER () FROM t", "BadKind", "rank")
        self.check_bad("SELECT rank() OVER (ORDER BY dense() OVER ()) FROM t", "BadKind", "dense")
        self.check_bad("SELECT rank() OVER (PARTITION BY a, 1 + place() OVER ()) FROM t", "BadKind", "place")
        self.check_bad("SELECT sum(sum(sum(a))) OVER () FROM t", "BadKind", "sum(a")
        self.check_bad("SELECT rank() OVER (ORDER BY sum(sum('x')) OVER ()) FROM t", "BadKind", "sum(sum")
        self.check_bad("SELECT 1 FROM t HAVING 1 < sum(sum('x')) OVER ()", "BadKind", "sum(sum")
        self.assertEqual(len(bound("SELECT sum(sum(a)) OVER (PARTITION BY count(*) ORDER BY min(b)) FROM t")), 2)
        self.assertEqual(len(bound("SELECT sum((SELECT sum(d) FROM u)) FROM t")), 2)
        self.assertEqual(len(bound("SELECT 1 FROM t WHERE 1 = (SELECT sum(d) FROM u)")), 2)
        self.assertEqual(len(bound("SELECT 1 FROM t WHERE 1 = (SELECT sum(t.a) OVER () FROM u)")), 2)

    def test_outside_of_selects(self):
        self.check_bad("VALUES (1, count(*))", "BadKind", "count")
        self.check_bad("SELECT 1 UNION SELECT 2 ORDER BY count(*)", "BadKind", "count")


class OrderOfMistakesTest(MistakesTest):
    # Each part of a select with a place for a mistake, in the order in which the parts are bound.
    QUERY = "SELECT {outs}, {out} FROM t JOIN w ON {on}, {source} WHERE {where} GROUP BY b, {key} HAVING {having} ORDER BY {order}"
    RIGHT = {"source": "u", "on": "TRUE", "where": "TRUE", "key": "c", "having": "TRUE", "outs": "1", "out": "b", "order": "c"}
    WRONG = [
        ("on", "({})"), ("source", "(SELECT {}) v"), ("where", "({})"), ("key", "({})"), ("outs", "sum({})"), ("having", "({})"),
        ("out", "max(t.a) OVER (ORDER BY {})"), ("outs", "'x' || ({})"), ("order", "'x' || ({})"),
    ]

    def test_each_two(self):
        for first, second in itertools.combinations(range(len(self.WRONG)), 2):
            for one, other in itertools.product(("q1", "1 + 'x'"), ("q2", "2 + 'y'")):
                parts = dict(self.RIGHT)
                (part, written), (later, wrapped) = self.WRONG[first], self.WRONG[second]
                parts[part] = written.format(one)
                parts[later] = wrapped.format(other) if part != later else f"{wrapped.format(other)}, {written.format(one)}"
                if "OVER" in parts["out"]:
                    parts["out"] = parts["out"].replace("max(t.a)", "max(b)")
                query = self.QUERY.format(**parts)
                name, sign = ("BadName", "q1") if one == "q1" else ("BadKind", "'x'")
                with self.subTest(query):
                    self.check_bad(query, name, query.index(one) + (0 if sign == "q1" else 4))

    def test_one_after_the_other(self):
        self.check_bad("SELECT 1 FROM q1, q2", "BadName", "q1")
        self.check_bad("SELECT q1, q2", "BadName", "q1")
        self.check_bad("SELECT 1 + 'x' + q", "BadKind", "'x'")
        self.check_bad("SELECT q + 'x'", "BadName", "q")
        self.check_bad("SELECT 'x' + q", "BadKind", "'x'")
        self.check_bad("SELECT (q1 + 1) || q2", "BadName", "q1")
        self.check_bad("SELECT (1 + 1) || q2", "BadKind", "1 + 1")
        self.check_bad("SELECT 1 FROM t GROUP BY q1, q2", "BadName", "q1")
        self.check_bad("SELECT 1 FROM t GROUP BY a ORDER BY q1, q2", "BadName", "q1")
        self.check_bad("SELECT rank() OVER (PARTITION BY q1 ORDER BY q2) FROM t", "BadName", "q1")
        self.check_bad("SELECT lag(q1) OVER (PARTITION BY q2) FROM t", "BadName", "q1")
        self.check_bad("SELECT CASE WHEN 1 THEN q END FROM t", "BadKind", "1")
        self.check_bad("SELECT q1 UNION SELECT q2", "BadName", "q1")
        self.check_bad("SELECT 1 UNION SELECT 1, q2", "BadName", "q2")
        self.check_bad("SELECT 1 UNION SELECT 'x' ORDER BY q", "BadKind", "SELECT 'x'")
        self.check_bad("WITH x AS (SELECT q1), y AS (SELECT q2) SELECT q3", "BadName", "q1")

    def test_calls_go_before_what_stands_left_of_them(self):
        self.check_bad("SELECT q1, sum(q2) FROM t", "BadName", "q2")
        self.check_bad("SELECT q1, rank() OVER (ORDER BY q2) FROM t", "BadName", "q2")
        self.check_bad("SELECT rank() OVER (ORDER BY q1), sum(q2) FROM t", "BadName", "q2")
        self.check_bad("SELECT 1 FROM t HAVING q1 ORDER BY sum(q2)", "BadName", "q2")
        self.check_bad("SELECT q1 FROM t ORDER BY rank() OVER (ORDER BY q2)", "BadName", "q2")
        self.check_bad("SELECT rank() OVER (ORDER BY q1) FROM t HAVING q2", "BadName", "q2")
        self.check_bad("SELECT q1, sum(a, a) FROM t", "BadKind", "sum")
        self.check_bad("SELECT q1, f(a) FROM t", "BadName", "q1")
        self.check_bad("SELECT q1, f(a) OVER () FROM t", "BadKind", "f(a")

    def test_names_that_are_left_over(self):
        self.check_bad("SELECT a + q FROM t GROUP BY b", "BadName", "a + q")
        self.check_bad("SELECT a + 'x' FROM t GROUP BY b", "BadName", "a + ")
        self.check_bad("SELECT 'x' + a FROM t GROUP BY b", "BadKind", "'x'")
        self.check_bad("SELECT q + a FROM t GROUP BY b", "BadName", "q + a")
        self.check_bad("SELECT a + 1 + q FROM t GROUP BY a + 1", "BadName", "q FROM")
        self.check_bad("SELECT 1 FROM t GROUP BY b HAVING a", "BadName", "a")
        self.check_bad("SELECT a, c FROM t GROUP BY b", "BadName", "a, c")
        self.check_bad("SELECT a, q FROM t GROUP BY b", "BadName", "a, q")
        self.check_bad("SELECT q, a FROM t GROUP BY b", "BadName", "q, a")
        self.check_bad("SELECT a FROM t GROUP BY b HAVING q", "BadName", "q")
        self.check_bad("SELECT 1 + (SELECT t.a + q FROM u) FROM t GROUP BY b", "BadName", "t.a + q")

    def test_names_that_are_left_over_of_two_queries(self):
        for inside, place in (("d + t.a", "d + t"), ("t.a + d", "t.a + d"), ("d + t.a + q", "d + t"), ("t.a + d + q", "t.a + d"),
                              ("u.a + t.a", "t.a FROM"), ("u.a + d", "d FROM")):
            self.check_bad(f"SELECT (SELECT {inside} FROM u GROUP BY u.a) FROM t GROUP BY t.b", "BadName", place)
        self.check_bad("SELECT a + (SELECT d FROM u GROUP BY u.a) FROM t GROUP BY b", "BadName", "a + (")
        self.check_bad("SELECT (SELECT * FROM u GROUP BY u.a) + a FROM t GROUP BY b", "BadName", "* FROM")
        self.check_bad("SELECT a + (SELECT * FROM u GROUP BY u.a) FROM t GROUP BY b", "BadName", "a + (")

    def test_which_places_mistakes_have(self):
        self.check_bad("SELECT 1 + (('x'))", "BadKind", "'x'")
        self.check_bad("SELECT ('x' || 'y') + 1", "BadKind", "'x'")
        self.check_bad("SELECT a, b + 1 FROM t", "BadKind", "b + 1")
        self.check_bad("SELECT -(b) FROM t", "BadKind", "b)")

    def test_the_classes(self):
        for query, kind in (("SELECT q", BadName), ("SELECT 1 + 'x'", BadKind)):
            with self.assertRaises(kind) as told:
                bind(parse(query), SCHEMAS)
            self.assertIs(type(told.exception), kind)


class TooMuchTest(MistakesTest):
    WIDE = (wide(12), wide(12, "x"), wide(1, "y"))

    def test_columns(self):
        names = ", ".join(["1"] * 24)
        self.assertEqual(len(bound(f"SELECT {names}")[1]), 24)
        self.check_too_much(f"SELECT {names}, 1")
        self.assertEqual(len(bound(f"VALUES ({names})")[1]), 24)
        self.check_too_much(f"VALUES ({names}, 1)")
        self.assertEqual(len(bound("SELECT * FROM v, x", self.WIDE)[1]), 24)
        self.check_too_much("SELECT 1 FROM v, x, y", self.WIDE)
        self.check_too_much("SELECT 1 FROM v JOIN x ON TRUE JOIN y ON TRUE", self.WIDE)
        self.check_too_much("SELECT rank() OVER () FROM v, x", self.WIDE)
        self.assertEqual(len(bound("SELECT v0 FROM v, x ORDER BY v1", self.WIDE)[1]), 1)
        self.check_too_much("SELECT * FROM v, x ORDER BY v1 + 1", self.WIDE)
        self.assertEqual(len(bound("SELECT * FROM v, x ORDER BY v1", self.WIDE)[1]), 24)
        many = ", ".join(f"v0 + {index}" for index in range(25))
        self.check_too_much(f"SELECT 1 FROM v GROUP BY {many}", self.WIDE)

    def test_each_source_of_a_from(self):
        """TooMuch goes ahead of mistakes that stand behind, and behind those that stand before."""
        self.check_too_much("SELECT q FROM v, x, y", self.WIDE)
        self.check_too_much("SELECT 1 FROM v, x, y, q", self.WIDE)
        self.check_too_much("SELECT 1 FROM v, x, y WHERE q", self.WIDE)
        self.check_too_much("SELECT 1 FROM v JOIN x ON TRUE JOIN y ON TRUE JOIN q ON TRUE", self.WIDE)
        self.check_bad("SELECT 1 FROM q, v, x, y", "BadName", "q", self.WIDE)
        self.check_bad("SELECT 1 FROM v JOIN x ON q JOIN y ON TRUE", "BadName", "q", self.WIDE)
        self.check_too_much("SELECT 1 FROM (SELECT " + ", ".join(["1"] * 25) + ") z, q")

    def test_each_query(self):
        much = "SELECT " + ", ".join(["1"] * 25)
        self.check_too_much(f"SELECT EXISTS ({much}), q")
        self.check_too_much(f"SELECT ({much})")
        self.check_too_much(f"SELECT 1 IN ({much})")
        self.check_too_much(f"WITH x AS ({much}) SELECT q")
        self.check_too_much(f"({much}) UNION SELECT q")
        self.check_bad(f"{much}, q", "BadName", "q")
        self.check_bad(f"{much} ORDER BY q", "BadName", "q")
        self.check_bad(f"{much} UNION SELECT q", "BadName", "q")
        self.check_bad(f"SELECT q, EXISTS ({much})", "BadName", "q")

    def doubling(self, many, last="SELECT 1 FROM x{}"):
        ctes = ["x0 AS (SELECT 1 AS a)"]
        for index in range(many):
            ctes.append(f"x{index + 1} AS (SELECT y.a FROM x{index} y, x{index} z)")
        return "WITH " + ", ".join(ctes) + " " + last.format(many)

    def test_nodes(self):
        sizes = [nodes(plan_of(self.doubling(many))) for many in range(9)]
        self.assertEqual(sizes[-1], 2 + 256 * 3 + 255 * 4)
        self.assertLessEqual(sizes[-1], 2000)
        self.check_too_much(self.doubling(9))
        self.check_too_much(self.doubling(9, "SELECT q"))
        self.check_too_much(self.doubling(40))
        self.check_bad(self.doubling(8, "SELECT q"), "BadName", "q")

    def test_the_greatest_number_of_nodes(self):
        long = "+".join(["1"] * 50)
        outs = ", ".join([long, long, "+".join(["1"] * 7)])
        query = self.doubling(8, f"SELECT {outs} FROM x{{}}")
        # What stands around the outs, two sums of 99 nodes and one of 13.
        self.assertEqual(nodes(plan_of(query)), 1789 + 99 + 99 + 13)
        self.check_too_much(self.doubling(8, f"SELECT {outs}, 1 FROM x{{}}"))

    def test_levels(self):
        def query(ones, many=14):
            ctes = ["x0 AS (SELECT 1 AS a)"]
            for index in range(many):
                ctes.append(f"x{index + 1} AS (SELECT a FROM x{index} WHERE TRUE)")
            return f"WITH {', '.join(ctes)} SELECT " + "+".join(["a"] * ones) + f" FROM x{many}"

        deepest = [many for many in range(10, 40) if outcome(bound, query(1, many)) != "TooMuch"][-1]
        # One select for SELECT 1 and its row, and two words for each query more.
        self.assertEqual(deepest, 28)
        self.assertEqual(outcome(bound, query(1, 29)), "TooMuch")
        self.assertEqual(outcome(bound, query(57, 0))[1], ("c1",))
        deep = "SELECT (SELECT " + "+".join(["1"] * 55) + ")"
        self.assertEqual(outcome(bound, deep)[1], ("c1",))

    def test_levels_of_nested_queries(self):
        chain = "+".join(["a"] * 50)
        for many in range(1, 8):
            query = "WITH x AS (SELECT " + chain + " AS a FROM t) SELECT " + "(SELECT " * many + "a" + " FROM x)" * many
            told = outcome(bound, query)
            # A select with a scalar for each of them, the select of x, and its sum.
            self.assertEqual(told == "TooMuch", 1 + 2 * many + 1 + 50 > 60, many)

    def test_the_class(self):
        with self.assertRaises(TooMuch) as told:
            bound("SELECT " + ", ".join(["1"] * 25))
        self.assertIs(type(told.exception), TooMuch)


if __name__ == "__main__":
    unittest.main()
