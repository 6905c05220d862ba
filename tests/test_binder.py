"""From queries to plans ([5.2] to [5.6])."""

import unittest

from peristyle.binder import bind
from peristyle.errors import BadName
from peristyle.grammar import parse
from peristyle.plan import kinds
from tests.plans import (ONE_ROW, SCAN_T, SCAN_U, SCAN_W, SCHEMAS, TRUE, asc, bound, col, cols, group, join, num, op,
                         outer, plan_of, select, text, top, where)
from tests.trees import outcome

ROWS = ("rows", False, None)


class BinderTest(unittest.TestCase):
    def check(self, query, plan, names=None):
        told = bound(query)
        self.assertIs(type(told), tuple)
        self.assertEqual(told[0], plan, query)
        self.assertEqual(repr(told[0]), repr(plan))
        if names is not None:
            self.assertEqual(told[1], tuple(names.split()))
        self.assertEqual(len(kinds(told[0], SCHEMAS)), len(told[1]))

    def check_bad(self, query, name, place):
        """Look at a mistake; the place is where a text begins for the last time, or an index."""
        at = place if isinstance(place, int) else query.rindex(place)
        self.assertEqual(outcome(bound, query), (name, at), query)


class NamesTest(BinderTest):
    def test_names_of_sources(self):
        self.check("SELECT a FROM t", select(cols(0), SCAN_T), "a")
        self.check("SELECT t.a FROM t", select(cols(0), SCAN_T), "a")
        self.check("SELECT x.b, c FROM t x", select(cols(1, 2), SCAN_T), "b c")
        self.check("SELECT d, u.a FROM t, u", select(cols(4, 3), join(SCAN_T, SCAN_U)), "d a")
        self.check("SELECT x.a, y.a FROM t x, t y", select(cols(0, 3), join(SCAN_T, SCAN_T)), "a a")

    def test_names_that_are_refused(self):
        self.check_bad("SELECT q FROM t", "BadName", "q FROM")
        self.check_bad("SELECT a FROM t, u", "BadName", "a FROM")
        self.check_bad("SELECT q.a FROM t", "BadName", "q.a")
        self.check_bad("SELECT t.a FROM t x", "BadName", "t.a")
        self.check_bad("SELECT t.q FROM t", "BadName", "t.q")
        self.check_bad("SELECT x.a FROM (SELECT 1 AS a, 2 AS a) x", "BadName", "x.a")
        self.check_bad("SELECT a FROM (SELECT 1 AS a, 2 AS a) x", "BadName", "a FROM (")
        self.check_bad("SELECT a", "BadName", "a")
        self.check_bad("SELECT 1 FROM q", "BadName", "q")
        self.check_bad("SELECT 1 FROM q x", "BadName", "q")
        self.check_bad("SELECT t", "BadName", "t")

    def test_names_from_the_inside_out(self):
        inner = select([outer(1, 1)], SCAN_U)
        self.check("SELECT (SELECT b FROM u) FROM t", select([("scalar", inner)], SCAN_T), "c1")
        inner = select([col(0)], SCAN_U)
        self.check("SELECT (SELECT a FROM u) FROM t", select([("scalar", inner)], SCAN_T))
        inner = select([outer(1, 0)], SCAN_U)
        self.check("SELECT (SELECT t.a FROM u) FROM t", select([("scalar", inner)], SCAN_T))
        inner = select([outer(1, 1)], SCAN_T)
        self.check("SELECT (SELECT x.b FROM t) FROM t x", select([("scalar", inner)], SCAN_T))

    def test_the_innermost_source_of_a_name(self):
        # The inner t has no d, although the outer one has.
        self.check_bad("SELECT (SELECT t.d FROM t) FROM u t", "BadName", "t.d")
        self.check("SELECT (SELECT x.d FROM t) FROM u x", select([("scalar", select([outer(1, 1)], SCAN_T))], SCAN_U))
        # The name is in several columns of the first query that has it.
        self.check_bad("SELECT (SELECT a FROM u x, u y) FROM t", "BadName", "a FROM u x")

    def test_two_and_three_queries_out(self):
        inner = select([op("cat", outer(2, 1), op("words", outer(1, 1)))], SCAN_W)
        middle = select([("scalar", inner)], SCAN_U)
        self.check("SELECT (SELECT (SELECT b || words(d) FROM w) FROM u) FROM t", select([("scalar", middle)], SCAN_T))
        inner = where(op("eq", outer(3, 1), col(1)), SCAN_W)
        third = select([num(1)], inner)
        second = select([num(1)], where(("exists", third), ONE_ROW))
        first = select([num(1)], where(("exists", second), SCAN_U))
        self.check("SELECT 1 FROM t WHERE EXISTS (SELECT 1 FROM u WHERE EXISTS (SELECT 1 WHERE EXISTS ("
                   "SELECT 1 FROM w WHERE b = x)))", select([num(1)], where(("exists", first), SCAN_T)))

    def test_a_query_in_from_does_not_see_its_neighbours(self):
        self.check_bad("SELECT 1 FROM t, (SELECT b FROM u) x", "BadName", "b FROM u")
        self.check_bad("SELECT 1 FROM t JOIN (SELECT t.b FROM u) x ON TRUE", "BadName", "t.b")
        inner = join(select([num(1)], SCAN_U), select([outer(1, 1)], SCAN_U))
        self.check("SELECT (SELECT y.b FROM (SELECT 1 FROM u) x, (SELECT b FROM u) y) FROM t",
                   select([("scalar", select(cols(1), inner))], SCAN_T))

    def test_on_sees_its_chain_up_to_its_right_side(self):
        chain = join(SCAN_T, SCAN_U, op("eq", col(0), col(3)), "left")
        chain = join(chain, SCAN_W, op("eq", col(4), col(5)), "full")
        self.check("SELECT x FROM t LEFT JOIN u ON t.a = u.a FULL JOIN w ON d = k", select(cols(6), chain))
        self.check_bad("SELECT 1 FROM t JOIN u ON k = 1 JOIN w ON TRUE", "BadName", "k = 1")
        self.check_bad("SELECT 1 FROM w, t JOIN u ON k = 1", "BadName", "k = 1")
        self.check_bad("SELECT 1 FROM w, t JOIN u ON w.k = 1", "BadName", "w.k")
        self.check_bad("SELECT 1 FROM t JOIN u ON a = 1", "BadName", "a = 1")
        plan = join(SCAN_W, join(SCAN_T, SCAN_U, op("eq", col(0), col(4)), "right"))
        self.check("SELECT k FROM w, t RIGHT JOIN u ON t.a = d", select(cols(0), plan))
        inner = join(SCAN_U, SCAN_U, op("eq", outer(1, 0), col(3)))
        self.check("SELECT 1 FROM t WHERE EXISTS (SELECT 1 FROM u x JOIN u y ON t.a = y.d)",
                   select([num(1)], where(("exists", select([num(1)], inner)), SCAN_T)))
        self.check("SELECT 1 FROM t JOIN u ON EXISTS (SELECT 1 WHERE c AND d = 1)", select([num(1)], join(
            SCAN_T, SCAN_U, ("exists", select([num(1)], where(op("and", outer(1, 2), op("eq", outer(1, 4), num(1))), ONE_ROW))))))

    def test_cross_joins(self):
        self.check("SELECT 1 FROM t CROSS JOIN u", select([num(1)], join(SCAN_T, SCAN_U)))
        self.check("SELECT x FROM t CROSS JOIN u JOIN w ON d = k", select(cols(6), join(join(SCAN_T, SCAN_U), SCAN_W, op(
            "eq", col(4), col(5)))))

    def test_two_sources_of_one_name(self):
        self.check_bad("SELECT 1 FROM t, t", "BadName", "t")
        self.check_bad("SELECT 1 FROM t, u t", "BadName", "u t")
        self.check_bad("SELECT 1 FROM t JOIN u ON TRUE JOIN w t ON TRUE", "BadName", "w t")
        self.check_bad("SELECT 1 FROM t CROSS JOIN u, w u", "BadName", "w u")
        self.check_bad("SELECT 1 FROM t, (SELECT q) t", "BadName", "(SELECT q")
        self.check_bad("SELECT 1 FROM t, q t", "BadName", "q t")
        self.check_bad("SELECT 1 FROM u CROSS JOIN u", "BadName", "u")
        self.check("SELECT 1 FROM t WHERE EXISTS (SELECT 1 FROM t)",
                   select([num(1)], where(("exists", select([num(1)], SCAN_T)), SCAN_T)))


class WithTest(BinderTest):
    def test_stands_for_its_query(self):
        self.check("WITH x AS (SELECT a, b FROM t) SELECT b FROM x", select(cols(1), select(cols(0, 1), SCAN_T)), "b")
        self.check("WITH x AS (SELECT a AS z FROM t) SELECT y.z FROM x y", select(cols(0), select(cols(0), SCAN_T)), "z")
        self.check("WITH t AS (SELECT d FROM u) SELECT d FROM t", select(cols(0), select(cols(1), SCAN_U)))
        self.check("WITH x AS (SELECT 1) SELECT 1 FROM x, x y", select([num(1)], join(
            select([num(1)], ONE_ROW), select([num(1)], ONE_ROW))))

    def test_that_is_not_used(self):
        self.check("WITH x AS (SELECT 1) SELECT a FROM t", select(cols(0), SCAN_T))
        self.check_bad("WITH x AS (SELECT q FROM t) SELECT a FROM t", "BadName", "q FROM")
        self.check_bad("WITH x AS (SELECT 1 + 'a') SELECT a FROM t", "BadKind", "'a'")

    def test_earlier_and_later_ones(self):
        self.check("WITH x AS (SELECT a FROM t), y AS (SELECT a FROM x) SELECT a FROM y",
                   select(cols(0), select(cols(0), select(cols(0), SCAN_T))))
        self.check_bad("WITH y AS (SELECT 1 FROM x), x AS (SELECT 1) SELECT 1 FROM y", "BadName", "x)")
        self.check_bad("WITH x AS (SELECT 1 FROM x) SELECT 1", "BadName", "x)")
        self.check("WITH t AS (SELECT a FROM t) SELECT a FROM t", select(cols(0), select(cols(0), SCAN_T)))
        self.check_bad("WITH x AS (SELECT 1), x AS (SELECT q) SELECT 1", "BadName", "x AS (SELECT q")

    def test_hides_those_further_out(self):
        inner = select([col(0)], select([num(2)], ONE_ROW))
        self.check("WITH x AS (SELECT 1 AS a) SELECT (WITH x AS (SELECT 2 AS a) SELECT a FROM x)", select([("scalar", inner)], ONE_ROW))
        inner = select([col(0)], select([num(1)], ONE_ROW))
        self.check("WITH x AS (SELECT 1 AS a) SELECT (SELECT a FROM x)", select([("scalar", inner)], ONE_ROW))
        self.check("WITH x AS (SELECT 1 AS a) SELECT a FROM (WITH y AS (SELECT a FROM x) SELECT a FROM y) z",
                   select(cols(0), select(cols(0), select(cols(0), select([num(1)], ONE_ROW)))))

    def test_used_deeper_inside(self):
        """A name of the query around means the same from further inside."""
        cte = select([outer(2, 1)], SCAN_U)
        middle = select([("scalar", select(cols(0), cte))], SCAN_W)
        self.check("SELECT (WITH x AS (SELECT b AS z FROM u) SELECT (SELECT z FROM x) FROM w) FROM t", select([("scalar", middle)], SCAN_T))
        cte = select([outer(1, 1)], SCAN_U)
        self.check("SELECT (WITH x AS (SELECT b AS z FROM u) SELECT z FROM x) FROM t",
                   select([("scalar", select(cols(0), cte))], SCAN_T))
        # What lies inside of the query of WITH stays.
        deep = select([op("cat", outer(3, 1), op("words", outer(1, 1)))], ONE_ROW)
        cte = select([("scalar", deep)], SCAN_U)
        middle = select([("scalar", select(cols(0), cte))], SCAN_W)
        self.check("SELECT (WITH x AS (SELECT (SELECT b || words(d)) AS z FROM u) SELECT (SELECT z FROM x) FROM w) FROM t",
                   select([("scalar", middle)], SCAN_T))

    def test_columns_of_the_query_itself_stay(self):
        cte = select([col(1)], where(op("eq", col(0), num(1)), SCAN_U))
        query = "WITH x AS (SELECT d FROM u WHERE a = 1) SELECT {} FROM t"
        self.check(query.format("(SELECT d FROM x)"), select([("scalar", select(cols(0), cte))], SCAN_T))
        self.check(query.format("(SELECT (SELECT d FROM x) FROM w)"), select([("scalar", select([("scalar", select(
            cols(0), cte))], SCAN_W))], SCAN_T))

    def test_names_are_those_where_it_is_written(self):
        # The select in which x is used has a column b, too; x does not see it.
        self.check_bad("WITH x AS (SELECT b FROM u) SELECT (SELECT 1 FROM x) FROM t", "BadName", "b FROM u")
        self.check_bad("WITH x AS (SELECT d FROM t) SELECT 1 FROM x, u", "BadName", "d FROM")

    def test_in_front_of_each_body(self):
        self.check("WITH x AS (SELECT 1 AS a) VALUES ((SELECT a FROM x))", select([("scalar", select(cols(0), select(
            [num(1)], ONE_ROW)))], ONE_ROW))
        one = select([num(1)], ONE_ROW)
        self.check("WITH x AS (SELECT 1 AS a) SELECT a FROM x UNION ALL (SELECT a FROM x)",
                   ("union", select(cols(0), one), select(cols(0), one)))


class OutsTest(BinderTest):
    def test_names_of_columns(self):
        self.check("SELECT a, t.b, a AS q, (c), a + 1, 1, sum(a) OVER () AS s FROM t", select(
            [*cols(0, 1, 0, 2), op("add", col(0), num(1)), num(1), col(3)],
            ("window", (("sum", col(0), (), (), None),), SCAN_T)), "a b q c c5 c6 s")
        self.check("SELECT t.*, 1 FROM t", select([*cols(0, 1, 2), num(1)], SCAN_T), "a b c c4")
        self.check("SELECT 1, 2 AS c1, 3", select([num(1), num(2), num(3)], ONE_ROW), "c1 c1 c3")

    def test_stars(self):
        self.check("SELECT * FROM t", select(cols(0, 1, 2), SCAN_T), "a b c")
        self.check("SELECT * FROM t, u x", select(cols(0, 1, 2, 3, 4), join(SCAN_T, SCAN_U)), "a b c a d")
        self.check("SELECT x.*, t.*, 1 FROM t, u x", select([*cols(3, 4, 0, 1, 2), num(1)], join(SCAN_T, SCAN_U)), "a d a b c c6")
        self.check("SELECT * FROM (SELECT 1 AS p, 2) x", select(cols(0, 1), select([num(1), num(2)], ONE_ROW)), "p c2")
        self.check("SELECT * FROM u LEFT JOIN u v ON TRUE", select(cols(0, 1, 2, 3), join(SCAN_U, SCAN_U, kind="left")))
        self.check_bad("SELECT *", "BadName", "*")
        self.check_bad("SELECT * WHERE TRUE", "BadName", "*")
        self.check_bad("SELECT a, q.* FROM t", "BadName", "q.*")
        self.check_bad("SELECT t.*", "BadName", "t.*")
        self.check_bad("SELECT (SELECT t.* FROM u) FROM t", "BadName", "t.*")

    def test_without_from(self):
        self.check("SELECT 1", select([num(1)], ONE_ROW), "c1")
        self.check("SELECT 'a' AS q WHERE TRUE", select([text("a")], where(TRUE, ONE_ROW)), "q")
        self.check("SELECT count(*)", select(cols(0), group([], [ROWS], ONE_ROW)))

    def test_where_and_distinct(self):
        self.check("SELECT DISTINCT b FROM t WHERE c", ("distinct", select(cols(1), where(col(2), SCAN_T))), "b")

    def test_literals_and_operators(self):
        self.check("SELECT 1, -1, 'x', TRUE, NULL", select(
            [num(1), op("neg", num(1)), text("x"), TRUE, num(None)], ONE_ROW), "c1 c2 c3 c4 c5")
        self.check("SELECT a BETWEEN 1 AND 2, b LIKE 'x', c IS NOT TRUE, a IN (1, 2) FROM t", select([
            op("and", op("ge", col(0), num(1)), op("le", col(0), num(2))), op("like", col(1), text("x")),
            op("not", op("same", col(2), TRUE)), op("or", op("eq", col(0), num(1)), op("eq", col(0), num(2)))], SCAN_T))
        self.check("SELECT CASE WHEN c THEN a WHEN a = 1 THEN 2 ELSE 3 END FROM t", select([
            ("case", ((col(2), col(0)), (op("eq", col(0), num(1)), num(2))), num(3))], SCAN_T))
        self.check("SELECT part(b, 1, 2), mod(a, 2), coalesce(b, 'x') FROM t", select([
            op("part", col(1), num(1), num(2)), op("mod", col(0), num(2)), op("coalesce", col(1), text("x"))], SCAN_T))

    def test_nested_queries(self):
        inner = select(cols(1), SCAN_U)
        self.check("SELECT (SELECT d FROM u), EXISTS (SELECT * FROM u), a IN (SELECT d FROM u) FROM t", select([
            ("scalar", inner), ("exists", select(cols(0, 1), SCAN_U)), ("in", col(0), inner)], SCAN_T))
        self.check_bad("SELECT (SELECT * FROM u)", "BadKind", "(SELECT *")
        self.check_bad("SELECT 1 IN (SELECT * FROM u)", "BadKind", "1 IN")
        self.check_bad("SELECT 1 IN (SELECT b FROM t)", "BadKind", "1 IN")
        self.check_bad("SELECT 2 + (SELECT b FROM t)", "BadKind", "(SELECT")


class GroupsTest(BinderTest):
    def test_keys(self):
        self.check("SELECT b FROM t GROUP BY b", select(cols(0), group(cols(1), [], SCAN_T)), "b")
        self.check("SELECT c, b FROM t GROUP BY b, c", select(cols(1, 0), group(cols(1, 2), [], SCAN_T)))
        self.check("SELECT a + 1, (a + 1) * 2 FROM t GROUP BY a + 1", select([col(0), op("mul", col(0), num(2))], group(
            [op("add", col(0), num(1))], [], SCAN_T)), "c1 c2")
        self.check("SELECT x.a FROM t x GROUP BY a", select(cols(0), group(cols(0), [], SCAN_T)))
        self.check("SELECT a FROM t GROUP BY a, t.a", select(cols(0), group(cols(0, 0), [], SCAN_T)))

    def test_the_outermost_key(self):
        self.check("SELECT a + 1, a FROM t GROUP BY a, a + 1", select(cols(1, 0), group([col(0), op("add", col(0), num(1))], [], SCAN_T)))
        self.check("SELECT 1, a + 1 FROM t GROUP BY 1, a", select([col(0), op("add", col(1), col(0))], group([num(1), col(0)], [], SCAN_T)))
        self.check("SELECT 2 FROM t GROUP BY a", select([num(2)], group(cols(0), [], SCAN_T)))
        self.check("SELECT TRUE FROM t GROUP BY 1", select([TRUE], group([num(1)], [], SCAN_T)))
        self.check("SELECT NULL, b || NULL FROM t GROUP BY NULL, b", select([col(0), op("cat", col(1), text(None))], group(
            [num(None), col(1)], [], SCAN_T)))

    def test_calls(self):
        self.check("SELECT count(*), count(b), sum(a), avg(a), min(b), max(c), every(c), some(c) FROM t", select(
            cols(*range(8)), group([], [ROWS, ("count", False, col(1)), ("sum", False, col(0)), ("avg", False, col(0)),
                                        ("min", False, col(1)), ("max", False, col(2)), ("every", False, col(2)),
                                        ("some", False, col(2))], SCAN_T)))
        self.assertEqual(kinds(plan_of("SELECT count(*), count(b), sum(a), avg(a), min(b), max(c), every(c), some(c) FROM t"), SCHEMAS),
                         ("int", "int", "int", "int", "text", "bool", "bool", "bool"))
        self.check("SELECT count(DISTINCT b), count(b) FROM t", select(cols(0, 1), group(
            [], [("count", True, col(1)), ("count", False, col(1))], SCAN_T)))

    def test_kinds_of_calls(self):
        for call, kind in (("count(*)", "int"), ("count(b)", "int"), ("sum(a)", "int"), ("avg(a)", "int"), ("min(b)", "text"), ("max(c)", "bool"),
                           ("max(a)", "int"), ("every(c)", "bool"), ("some(c)", "bool"), ("count(c)", "int"), ("rank()", "int"),
                           ("dense()", "int"), ("place()", "int"), ("lag(b)", "text"), ("lead(c)", "bool"), ("lag(a)", "int")):
            for over in (" OVER ()", "")[:1 if call[:3] in ("ran", "den", "pla", "lag", "lea") else 2]:
                for written, wanted in (("{} + 1", "int"), ("{} || 'x'", "text"), ("NOT {}", "bool")):
                    query = f"SELECT {written.format(call + over)} FROM t"
                    if kind == wanted:
                        self.assertEqual(kinds(plan_of(query), SCHEMAS), (kind,))
                    else:
                        self.check_bad(query, "BadKind", query.index(call))

    def test_calls_beside_nested_queries(self):
        self.check("SELECT sum(a) IN (SELECT 1) FROM t", select([("in", col(0), select([num(1)], ONE_ROW))], group(
            [], [("sum", False, col(0))], SCAN_T)))
        self.check("SELECT rank() OVER () IN (SELECT 1) FROM t", select([("in", col(3), select([num(1)], ONE_ROW))], (
            "window", (("rank", None, (), (), None),), SCAN_T)))

    def test_calls_that_are_alike(self):
        self.check("SELECT sum(a), sum(t.a) + 1, sum((a)), count(*), count(*) FROM t", select(
            [col(0), op("add", col(0), num(1)), col(0), col(1), col(1)], group([], [("sum", False, col(0)), ROWS], SCAN_T)))
        self.check("SELECT sum(a) BETWEEN 1 AND 2, sum(DISTINCT a) FROM t", select([
            op("and", op("ge", col(0), num(1)), op("le", col(0), num(2))), col(1)], group(
                [], [("sum", False, col(0)), ("sum", True, col(0))], SCAN_T)))

    def test_the_order_of_calls(self):
        self.check("SELECT b, max(a) FROM t GROUP BY b HAVING sum(a) > count(*) ORDER BY min(a), max(a)", select(cols(0, 1), top(
            [asc(2), asc(1)], None, 0, select(cols(0, 1, 4), where(op("gt", col(2), col(3)), group(
                cols(1), [("max", False, col(0)), ("sum", False, col(0)), ROWS, ("min", False, col(0))], SCAN_T))))))

    def test_having(self):
        self.check("SELECT 1 FROM t HAVING TRUE", select([num(1)], where(TRUE, group([], [], SCAN_T))))
        self.check("SELECT b FROM t GROUP BY b HAVING b = 'x'", select(cols(0), where(op("eq", col(0), text("x")), group(cols(1), [], SCAN_T))))
        self.check_bad("SELECT 1 FROM t HAVING c", "BadName", "c")

    def test_a_call_in_order_by_alone(self):
        self.check("SELECT 1 FROM t ORDER BY count(*)", select(cols(0), top([asc(1)], None, 0, select(
            [num(1), col(0)], group([], [ROWS], SCAN_T)))))
        self.check_bad("SELECT a FROM t ORDER BY count(*)", "BadName", "a FROM")

    def test_names_that_are_left_over(self):
        self.check_bad("SELECT a FROM t GROUP BY b", "BadName", "a FROM")
        self.check_bad("SELECT a + 1 FROM t GROUP BY a + 2", "BadName", "a + 1")
        self.check_bad("SELECT sum(a) + a FROM t", "BadName", "a FROM")
        self.check_bad("SELECT 1 FROM t GROUP BY b ORDER BY b, a", "BadName", "a")
        self.check_bad("SELECT 1 + CASE WHEN c THEN a END FROM t GROUP BY c", "BadName", "a END")
        self.check_bad("SELECT * FROM t GROUP BY a, b", "BadName", "*")
        self.check_bad("SELECT a, t.* FROM t GROUP BY a, b", "BadName", "t.*")
        self.check("SELECT * FROM u GROUP BY d, a", select(cols(1, 0), group(cols(1, 0), [], SCAN_U)), "a d")
        self.check("SELECT sum(a + 1), max(b) FROM t", select(cols(0, 1), group(
            [], [("sum", False, op("add", col(0), num(1))), ("max", False, col(1))], SCAN_T)))

    def test_nested_queries(self):
        inner = select([op("words", outer(1, 0))], SCAN_U)
        self.check("SELECT (SELECT words(t.a) FROM u) FROM t GROUP BY b, a", select([("scalar", select(
            [op("words", outer(1, 1))], SCAN_U))], group(cols(1, 0), [], SCAN_T)))
        self.check("SELECT (SELECT words(t.a) FROM u) FROM t GROUP BY (SELECT words(t.a) FROM u)", select(cols(0), group(
            [("scalar", inner)], [], SCAN_T)))
        self.check_bad("SELECT (SELECT words(t.a) FROM u) FROM t GROUP BY a + 1", "BadName", "t.a")
        self.check_bad("SELECT (SELECT words(t.a + 1) FROM u) FROM t GROUP BY a + 1", "BadName", "t.a + 1) FROM")
        self.check_bad("SELECT (WITH x AS (SELECT b) SELECT 1) FROM t GROUP BY a", "BadName", "b) SELECT")
        self.check_bad("SELECT (SELECT 1 FROM (SELECT b) x) FROM t GROUP BY a", "BadName", "b) x")
        self.check("SELECT max((SELECT t.b FROM u)) FROM t", select(cols(0), group(
            [], [("max", False, ("scalar", select([outer(1, 1)], SCAN_U)))], SCAN_T)))
        self.check("SELECT a IN (SELECT t.a FROM u) FROM t GROUP BY a", select([("in", col(0), select([outer(1, 0)], SCAN_U))], group(
            cols(0), [], SCAN_T)))

    def test_calls_in_nested_queries_are_theirs(self):
        inner = select(cols(0), group([], [("sum", False, outer(1, 0))], SCAN_U))
        self.check("SELECT (SELECT sum(t.a) FROM u) FROM t", select([("scalar", inner)], SCAN_T))
        inner = select([op("add", col(0), outer(1, 0))], group([], [ROWS], SCAN_U))
        self.check("SELECT (SELECT count(*) + t.a FROM u) FROM t", select([("scalar", inner)], SCAN_T))

    def test_two_queries_with_groups(self):
        """Each name is left over, or a key, of its own select."""
        inner = select([op("add", col(0), outer(1, 1))], group(cols(1), [], SCAN_U))
        self.check("SELECT (SELECT d + t.a FROM u GROUP BY d) FROM t GROUP BY b, a", select([("scalar", inner)], group(cols(1, 0), [], SCAN_T)))
        self.check_bad("SELECT (SELECT d + t.a FROM u GROUP BY d) FROM t GROUP BY b", "BadName", "t.a")
        self.check_bad("SELECT (SELECT d + t.a FROM u GROUP BY u.a) FROM t GROUP BY t.a", "BadName", "d + t.a")

    def test_group_by_of_outer_names(self):
        inner = select(cols(0), group([outer(1, 1)], [], SCAN_U))
        self.check("SELECT (SELECT b FROM u GROUP BY b) FROM t", select([("scalar", inner)], SCAN_T))
        inner = select([outer(1, 1)], group(cols(1), [], SCAN_U))
        self.check("SELECT (SELECT b FROM u GROUP BY d) FROM t", select([("scalar", inner)], SCAN_T))


class WindowsTest(BinderTest):
    def test_each_function(self):
        frame = (("before", 1), ("after", 0))
        self.check("SELECT count(*) OVER (), count(b) OVER (PARTITION BY c), sum(a) OVER (ORDER BY b DESC, c ROWS BETWEEN 1 PRECEDING "
                   "AND 0 FOLLOWING), rank() OVER (), dense() OVER (ORDER BY a), place() OVER (), lag(b) OVER (ORDER BY a), "
                   "lead(c) OVER () FROM t", select(cols(*range(3, 11)), ("window", (
                       ("rows", None, (), (), None), ("count", col(1), (col(2),), (), None),
                       ("sum", col(0), (), ((col(1), True, True), (col(2), False, False)), frame), ("rank", None, (), (), None),
                       ("dense", None, (), (asc(0),), None), ("place", None, (), (), None), ("lag", col(1), (), (asc(0),), None),
                       ("lead", col(2), (), (), None)), SCAN_T)))

    def test_functions_that_are_alike(self):
        self.check("SELECT sum(a) OVER (), 1 + sum(t.a) OVER () FROM t ORDER BY sum(a) OVER (), avg(a) OVER ()", select(cols(0, 1), top(
            [asc(0), asc(2)], None, 0, select([col(3), op("add", num(1), col(3)), col(4)], ("window", (
                ("sum", col(0), (), (), None), ("avg", col(0), (), (), None)), SCAN_T)))))
        self.check("SELECT sum(a) OVER (), sum(a) OVER (ORDER BY a), sum(a) FROM t GROUP BY a", select(cols(2, 3, 1), ("window", (
            ("sum", col(0), (), (), None), ("sum", col(0), (), (asc(0),), None)), group(cols(0), [("sum", False, col(0))], SCAN_T))))

    def test_behind_groups(self):
        self.check("SELECT sum(sum(a)) OVER (PARTITION BY max(b) ORDER BY c), c FROM t GROUP BY c HAVING count(*) > 1", select(cols(4, 0), (
            "window", (("sum", col(1), (col(2),), (asc(0),), None),), where(op("gt", col(3), num(1)), group(
                cols(2), [("sum", False, col(0)), ("max", False, col(1)), ROWS], SCAN_T)))))
        self.check("SELECT b FROM t GROUP BY b ORDER BY 1 + max(sum(a)) OVER ()", select(cols(0), top([asc(1)], None, 0, select(
            [col(0), op("add", num(1), col(2))], ("window", (("max", col(1), (), (), None),), group(
                cols(1), [("sum", False, col(0))], SCAN_T))))))
        self.check("SELECT 1 FROM t ORDER BY max(sum(a)) OVER ()", select(cols(0), top([asc(1)], None, 0, select([num(1), col(1)], (
            "window", (("max", col(0), (), (), None),), group([], [("sum", False, col(0))], SCAN_T))))))
        self.check_bad("SELECT sum(a) OVER () FROM t GROUP BY b", "BadName", "a) OVER")
        self.check_bad("SELECT rank() OVER (ORDER BY a) FROM t GROUP BY b", "BadName", "a) FROM")

    def test_nested_queries_in_windows(self):
        self.check("SELECT max((SELECT t.b FROM u)) OVER (PARTITION BY b, (SELECT t.a)) FROM t", select(cols(3), ("window", ((
            "max", ("scalar", select([outer(1, 1)], SCAN_U)), (col(1), ("scalar", select([outer(1, 0)], ONE_ROW))), (), None),), SCAN_T)))
        self.check("SELECT max((SELECT t.b FROM u)) OVER () FROM t GROUP BY a, b", select(cols(2), ("window", ((
            "max", ("scalar", select([outer(1, 1)], SCAN_U)), (), (), None),), group(cols(0, 1), [], SCAN_T))))

    def test_windows_and_distinct(self):
        self.check("SELECT DISTINCT rank() OVER () FROM t", ("distinct", select(cols(3), ("window", (("rank", None, (), (), None),), SCAN_T))))

    def test_edges_may_be_alike(self):
        for first, second in [("1 PRECEDING", "1 PRECEDING"), ("CURRENT ROW", "CURRENT ROW"), ("2 PRECEDING", "1 PRECEDING"),
                              ("1 FOLLOWING", "2 FOLLOWING"), ("UNBOUNDED PRECEDING", "UNBOUNDED FOLLOWING"),
                              ("CURRENT ROW", "0 FOLLOWING"), ("0 PRECEDING", "CURRENT ROW"), ("3 FOLLOWING", "UNBOUNDED FOLLOWING")]:
            self.assertEqual(len(bound(f"SELECT sum(a) OVER (ROWS BETWEEN {first} AND {second}) FROM t")), 2)
        for first, second in [("1 PRECEDING", "2 PRECEDING"), ("CURRENT ROW", "1 PRECEDING"), ("2 FOLLOWING", "1 FOLLOWING"),
                              ("UNBOUNDED FOLLOWING", "UNBOUNDED FOLLOWING"), ("UNBOUNDED PRECEDING", "UNBOUNDED PRECEDING"),
                              ("CURRENT ROW", "0 PRECEDING"), ("0 FOLLOWING", "CURRENT ROW"), ("0 FOLLOWING", "0 PRECEDING"),
                              ("UNBOUNDED FOLLOWING", "CURRENT ROW"), ("CURRENT ROW", "UNBOUNDED PRECEDING")]:
            for name in ("sum(a)", "count(*)", "sum(q)"):
                self.check_bad(f"SELECT 1 + {name} OVER (ROWS BETWEEN {first} AND {second}) FROM t", "BadKind", 11)


class SetsTest(BinderTest):
    def test_sets(self):
        left, right = select(cols(0), SCAN_T), select(cols(1), SCAN_U)
        query = "SELECT a FROM t {} SELECT d FROM u"
        self.check(query.format("UNION"), ("distinct", ("union", left, right)), "a")
        self.check(query.format("UNION ALL"), ("union", left, right), "a")
        self.check(query.format("EXCEPT"), ("except", ("distinct", left), ("distinct", right)), "a")
        self.check(query.format("EXCEPT ALL"), ("except", left, right), "a")
        self.check(query.format("INTERSECT"), ("meet", ("distinct", left), ("distinct", right)), "a")
        self.check(query.format("INTERSECT ALL"), ("meet", left, right), "a")

    def test_kinds(self):
        self.check_bad("SELECT 1 UNION SELECT 'a'", "BadKind", "SELECT 'a'")
        self.check_bad("SELECT 1 UNION SELECT 1, 2", "BadKind", "SELECT 1, 2")
        self.check_bad("SELECT 1 EXCEPT (SELECT 'a')", "BadKind", "SELECT 'a'")
        self.check_bad("SELECT 1 UNION (SELECT 'a') INTERSECT SELECT 'b'", "BadKind", "(SELECT 'a'")
        self.check_bad("SELECT 'a' UNION SELECT NULL", "BadKind", "SELECT NULL")
        self.check_bad("SELECT 'a' UNION VALUES (1)", "BadKind", "VALUES")
        self.check("SELECT 1 UNION ALL SELECT NULL", ("union", select([num(1)], ONE_ROW), select([num(None)], ONE_ROW)))

    def test_brackets(self):
        one = select([num(1)], ONE_ROW)
        self.check("(SELECT 1)", one, "c1")
        self.check("(SELECT 1 AS x UNION ALL SELECT 1) EXCEPT ALL (SELECT 1 LIMIT 3)", ("except", ("union", one, one), top([], 3, 0, one)), "x")

    def test_values(self):
        self.check("VALUES (1, 'a'), (-2, NULL)", ("rows", ("int", "text"), ((1, "a"), (-2, None))), "c1 c2")
        self.check("VALUES (NULL), (NULL)", ("rows", ("int",), ((None,), (None,))))
        self.check("VALUES (NULL), (TRUE)", ("rows", ("bool",), ((None,), (True,))))
        self.check("VALUES (- 5)", ("rows", ("int",), ((-5,),)))
        self.check("VALUES ((1))", ("rows", ("int",), ((1,),)))
        self.check("VALUES (NULL, 1 + 1), ('a', 2), (NULL, -3)", ("union", ("union", select(
            [text(None), op("add", num(1), num(1))], ONE_ROW), select([text("a"), num(2)], ONE_ROW)), select(
                [text(None), op("neg", num(3))], ONE_ROW)))
        self.check("VALUES (--1)", select([op("neg", op("neg", num(1)))], ONE_ROW))
        self.check("VALUES (-NULL)", select([op("neg", num(None))], ONE_ROW))
        self.check("VALUES (-(1 + 1))", select([op("neg", op("add", num(1), num(1)))], ONE_ROW))
        self.check("VALUES (-(SELECT 1))", select([op("neg", ("scalar", select([num(1)], ONE_ROW)))], ONE_ROW))
        self.check("VALUES (NOT TRUE)", select([op("not", TRUE)], ONE_ROW))
        self.check("VALUES (-(1), 'a', FALSE)", ("rows", ("int", "text", "bool"), ((-1, "a", False),)))
        self.check("SELECT c1 FROM (VALUES (1)) x", select(cols(0), ("rows", ("int",), ((1,),))), "c1")
        self.check("SELECT 1 FROM t WHERE a IN (VALUES (1), (a))", select([num(1)], where(("in", col(0), ("union", select(
            [num(1)], ONE_ROW), select([outer(1, 0)], ONE_ROW))), SCAN_T)))
        self.check("SELECT (VALUES ((SELECT b))) FROM t", select([("scalar", select([("scalar", select([outer(2, 1)], ONE_ROW))], ONE_ROW))], SCAN_T))

    def test_values_that_are_refused(self):
        self.check_bad("VALUES (1, 2), (3)", "BadKind", "3")
        self.check_bad("VALUES (1), (2, 3)", "BadKind", "2, 3")
        self.check_bad("VALUES (q, 1 + 'a'), (3)", "BadKind", "3")
        self.check_bad("VALUES (1), ('a')", "BadKind", "'a'")
        self.check_bad("VALUES (1), (NULL), ('a')", "BadKind", "'a'")
        self.check_bad("VALUES (1, 'a'), ('b', 2)", "BadKind", "'b'")
        self.check_bad("VALUES (1), (q)", "BadName", "q")
        self.check_bad("VALUES ('a'), (-1)", "BadKind", "-1")
        self.check_bad("VALUES (-'a')", "BadKind", "'a'")
        self.check_bad("VALUES (count(*))", "BadKind", "count")


class OrderTest(BinderTest):
    def test_names_of_outs(self):
        inner = select([op("add", col(0), num(1)), col(1)], SCAN_T)
        self.check("SELECT a + 1 AS x, b FROM t ORDER BY x, b DESC", top([asc(0), (col(1), True, True)], None, 0, inner), "x b")
        self.check("SELECT b AS a FROM t ORDER BY a", top([asc(0)], None, 0, select(cols(1), SCAN_T)))
        self.check("SELECT b AS a FROM t ORDER BY t.a", select(cols(0), top([asc(1)], None, 0, select(cols(1, 0), SCAN_T))))
        self.check("SELECT 1 ORDER BY c1", top([asc(0)], None, 0, select([num(1)], ONE_ROW)))

    def test_names_of_several_outs(self):
        # Then it is a name of the FROM.
        self.check("SELECT a, a FROM t ORDER BY a", top([asc(0)], None, 0, select(cols(0, 0), SCAN_T)))
        self.check("SELECT b AS a, a FROM t ORDER BY a", top([asc(1)], None, 0, select(cols(1, 0), SCAN_T)))
        self.check_bad("SELECT 1 AS x, 2 AS x FROM t ORDER BY x", "BadName", "x")

    def test_what_is_no_out(self):
        self.check("SELECT a FROM t ORDER BY b", select(cols(0), top([asc(1)], None, 0, select(cols(0, 1), SCAN_T))), "a")
        self.check("SELECT a FROM t ORDER BY b, c, b DESC, a", select(cols(0), top(
            [asc(1), asc(2), (col(1), True, True), asc(0)], None, 0, select(cols(0, 1, 2), SCAN_T))))
        self.check("SELECT a + 1 FROM t ORDER BY a + 1", top([asc(0)], None, 0, select([op("add", col(0), num(1))], SCAN_T)))
        self.check("SELECT a FROM t ORDER BY 1", select(cols(0), top([asc(1)], None, 0, select([col(0), num(1)], SCAN_T))))
        self.check("SELECT 1 FROM t ORDER BY 1", top([asc(0)], None, 0, select([num(1)], SCAN_T)))
        self.check("SELECT a AS x FROM t ORDER BY a", top([asc(0)], None, 0, select(cols(0), SCAN_T)))
        self.check_bad("SELECT a AS x FROM t ORDER BY x + 1", "BadName", "x + 1")
        self.check_bad("SELECT a FROM t ORDER BY q", "BadName", "q")

    def test_behind_groups_and_windows(self):
        self.check("SELECT b FROM t GROUP BY b ORDER BY sum(a) DESC, b", select(cols(0), top([(col(1), True, True), asc(0)], None, 0, select(
            cols(0, 1), group(cols(1), [("sum", False, col(0))], SCAN_T)))))
        self.check("SELECT a FROM t ORDER BY rank() OVER (ORDER BY b)", select(cols(0), top([asc(1)], None, 0, select(
            cols(0, 3), ("window", (("rank", None, (), (asc(1),), None),), SCAN_T)))))

    def test_nested_queries(self):
        self.check("SELECT a FROM t ORDER BY (SELECT t.b)", select(cols(0), top([asc(1)], None, 0, select(
            [col(0), ("scalar", select([outer(1, 1)], ONE_ROW))], SCAN_T))))
        self.check("SELECT DISTINCT a FROM t ORDER BY (SELECT a + d FROM u)", top([(("scalar", select([op("add", col(0), col(1))], SCAN_U)), False, False)],
                   None, 0, ("distinct", select(cols(0), SCAN_T))))
        self.check("SELECT DISTINCT b FROM t ORDER BY (SELECT b FROM u)", top([(("scalar", select([outer(1, 0)], SCAN_U)), False, False)],
                   None, 0, ("distinct", select(cols(1), SCAN_T))))

    def test_names_of_outs_alone(self):
        """With DISTINCT, behind sets, VALUES and brackets."""
        for body, plan in [("SELECT DISTINCT a FROM t", ("distinct", select(cols(0), SCAN_T))),
                           ("SELECT a FROM t UNION ALL SELECT 1", ("union", select(cols(0), SCAN_T), select([num(1)], ONE_ROW))),
                           ("(SELECT a FROM t)", select(cols(0), SCAN_T))]:
            self.check(body + " ORDER BY a, a + 1", top([asc(0), (op("add", col(0), num(1)), False, False)], None, 0, plan), "a")
            self.check(body + " ORDER BY 1, NULL", top([(num(1), False, False), (num(None), False, False)], None, 0, plan))
            self.check_bad(body + " ORDER BY b", "BadName", "b")
            self.check_bad(body + " ORDER BY t.a", "BadName", "t.a")
            self.check_bad(body + " ORDER BY 1 + count(*)", "BadKind", "count")
            self.check_bad(body + " ORDER BY rank() OVER ()", "BadKind", "rank")
            self.check_bad(body + " ORDER BY f(q)", "BadKind", "f(q")
            self.check_bad(body + " ORDER BY a || 'x'", "BadKind", "a ||")
            self.check_bad("SELECT 1 FROM u WHERE EXISTS (" + body + " ORDER BY d)", "BadName", "d)")
            self.check_bad("SELECT 1 FROM u WHERE EXISTS (" + body + " ORDER BY (SELECT d))", "BadName", "d))")
        self.check("VALUES (2), (1) ORDER BY c1", top([asc(0)], None, 0, ("rows", ("int",), ((2,), (1,)))))
        self.check_bad("SELECT 1 AS x, 2 AS x UNION SELECT 1, 2 ORDER BY x", "BadName", "x")

    def test_limit_and_offset(self):
        one = select([num(1)], ONE_ROW)
        self.check("SELECT 1 LIMIT 3", top([], 3, 0, one))
        self.check("SELECT 1 LIMIT 0", top([], 0, 0, one))
        self.check("SELECT 1 OFFSET 4", top([], None, 4, one))
        self.check("SELECT 1 OFFSET 0", one)
        self.check("SELECT DISTINCT 1 LIMIT 2 OFFSET 1", top([], 2, 1, ("distinct", one)))
        self.check("SELECT a FROM t ORDER BY b LIMIT 2 OFFSET 1", select(cols(0), top([asc(1)], 2, 1, select(cols(0, 1), SCAN_T))))
        self.check("VALUES (1) LIMIT 1", top([], 1, 0, ("rows", ("int",), ((1,),))))

    def test_order_inside(self):
        inner = top([asc(0)], 1, 0, select(cols(0), SCAN_T))
        self.check("SELECT a FROM (SELECT a FROM t ORDER BY a LIMIT 1) x", select(cols(0), inner))


class StaysTest(BinderTest):
    def test_a_second_call_tells_the_same(self):
        query = ("WITH x AS (SELECT a, count(*) AS n FROM t GROUP BY a) SELECT (SELECT n FROM x WHERE x.a = u.a), rank() OVER "
                 "(ORDER BY d) FROM u ORDER BY 1, d")
        tree = parse(query)
        first = bind(tree, SCHEMAS)
        self.assertEqual(tree, parse(query))
        self.assertEqual(bind(tree, SCHEMAS), first)
        self.assertEqual(SCHEMAS[0][0], "t")

    def test_no_schemas(self):
        self.assertEqual(bind(parse("SELECT 1"), ()), (select([num(1)], ONE_ROW), ("c1",)))
        with self.assertRaises(BadName) as told:
            bind(parse("SELECT 1 FROM t"), ())
        self.assertEqual(told.exception.at, 14)


if __name__ == "__main__":
    unittest.main()
