"""Databases ([12.1] to [12.4])."""

import random
import unittest

from peristyle.checker import takes_all
from peristyle.database import Database
from peristyle.errors import BadForm, BadKey, BadKind, BadName, BadText, NoSuch, TooMuch
from peristyle.estimate import cost
from peristyle.grammar import parse
from peristyle.binder import bind
from peristyle.meaning import answer
from peristyle.plan import nodes
from peristyle.running import plan_of
from peristyle.value import fault
from tests.plans import SCHEMAS, T, U, W

SALES = ("sales", (("id", "int", False), ("who", "text", True), ("sum", "int", True)), ((0,),))
ROWS = [(1, "ann", 5), (2, "bob", None), (3, None, 7), (4, "ann", 9)]
NAMES_THAT_ARE_NONE = ("", "A", "1a", "select", "group", "rows", "a b", "a" * 21, "_a", "a-b", "value's")


def filled():
    """A database with three tables and four versions."""
    db = Database()
    for schema in SCHEMAS:
        db.create(schema)
    db.commit([("t", [], [(1, "x", True), (2, None, False), (3, "y", None)]), ("u", [], [(1, 2), (1, 2), (2, None), (3, 1)])])
    db.commit([("w", [], [(1, "x", 5), (2, "y", None)])])
    db.commit([("u", [(1, 2)], [(4, 4)]), ("t", [(3, "y", None)], [])])
    db.commit([])
    return db


def by_hand(db, query, version):
    """The answer of a query without views, by the meaning of its plan."""
    plan = bind(parse(query), db.schemas())[0]
    return answer(plan, {schema[0]: (schema, db.store.rows(schema[0], version)) for schema in db.schemas()})


class Case(unittest.TestCase):
    def raises(self, error, call, *args, **more):
        with self.assertRaises(error) as caught:
            call(*args, **more)
        self.assertIs(type(caught.exception), error)
        return caught.exception


class TablesTest(Case):
    def test_tables_and_versions(self):
        db = Database()
        self.assertEqual((db.version(), db.schemas(), db.views()), (0, (), ()))
        self.assertIsNone(db.create(SALES))
        self.assertIsNone(db.create(U))
        self.assertEqual(db.schemas(), (SALES, U))
        self.assertEqual(db.commit([("sales", [], ROWS)]), 1)
        self.assertEqual(db.commit([]), 2)
        self.assertEqual(db.version(), 2)
        self.assertIsNone(db.pack("sales", 3))
        self.assertIsNone(db.settle("sales", 2))
        self.assertIsNone(db.drop("u"))
        self.assertEqual(db.schemas(), (SALES,))
        self.assertEqual(db.query("SELECT * FROM sales"), (("id", "who", "sum"), sorted(ROWS[:1] + ROWS[3:] + ROWS[1:3], key=lambda row: row[0])))

    def test_refusals_of_create(self):
        db = filled()
        db.view("v", "SELECT a FROM t")
        self.raises(BadForm, db.create, ("v", (), ()))
        self.raises(BadForm, db.create, ("t", (("a", "int", True),), ((0,),)))
        self.assertEqual(self.raises(BadName, db.create, T).at, -1)
        self.assertEqual(self.raises(BadName, db.create, ("v",) + U[1:]).at, -1)
        for number in range(17):
            db.create(("n" + str(number),) + U[1:])
        self.raises(TooMuch, db.create, ("more",) + U[1:])
        self.assertEqual(self.raises(BadName, db.create, ("v",) + U[1:]).at, -1)
        self.raises(BadName, db.create, T)
        self.raises(BadForm, db.create, ("select",) + U[1:])
        self.assertEqual(len(db.schemas()), 20)

    def test_refusals_of_drop(self):
        db = filled()
        db.view("v", "WITH q AS (SELECT a FROM t) SELECT q.a FROM q JOIN u ON q.a = u.a")
        self.raises(NoSuch, db.drop, "z")
        self.raises(NoSuch, db.drop, "v")
        self.raises(BadKey, db.drop, "t")
        self.raises(BadKey, db.drop, "u")
        db.drop("w")
        db.drop_view("v")
        db.drop("t")
        self.assertEqual([schema[0] for schema in db.schemas()], ["u"])

    def test_a_query_of_with_that_is_not_used_reads_nothing(self):
        db = filled()
        db.view("v", "WITH q AS (SELECT a FROM t) SELECT a FROM u")
        db.drop("t")
        self.raises(BadKey, db.drop, "u")
        self.assertEqual(db.query("SELECT count(*) FROM v")[1], [(4,)])

    def test_refusals_of_pack_and_settle(self):
        db = filled()
        db.view("v", "SELECT a FROM t")
        for name in ("z", "v"):
            self.raises(NoSuch, db.pack, name, 9)
            self.raises(NoSuch, db.settle, name, 0)
        for packing in (-1, 5):
            self.raises(BadForm, db.pack, "t", packing)
        for size in (0, 257):
            self.raises(BadForm, db.settle, "t", size)

    def test_a_refused_commit_changes_nothing(self):
        db = filled()
        db.view("v", "SELECT count(*) AS n, sum(d) AS s FROM u")
        db.view("x", "SELECT a FROM t")
        before = (db.version(), db.kept("v"), db.kept("x"), db.query("SELECT * FROM u")[1], db.query("SELECT * FROM v")[1])
        good = ("u", [(2, None)], [(7, 7)])
        for error, bad in ((NoSuch, ("z", [], [])), (NoSuch, ("v", [], [])), (BadForm, ("u", [], [(1,)])), (BadForm, ("u", [(1, "x")], [])), (NoSuch, ("u", [(9, 9)], [])),
                           (BadKey, ("t", [], [(1, None, None)])), (TooMuch, ("u", [], [(1, 1)] * 2000)), (NoSuch, ("u", [(2, None)], []))):
            self.raises(error, db.commit, [good, bad])
            self.assertEqual((db.version(), db.kept("v"), db.kept("x"), db.query("SELECT * FROM u")[1], db.query("SELECT * FROM v")[1]), before)
        self.raises(NoSuch, db.commit, [("z", [], []), ("u", [(9, 9)], [(1,)])])
        self.raises(BadForm, db.commit, [("u", [(9, 9)], [(1,)]), ("z", [], [])])
        self.assertEqual(db.commit([good]), before[0] + 1)

    def test_rows_that_come_and_go_in_one_commit(self):
        db = filled()
        db.view("v", "SELECT a, count(*) AS n FROM u GROUP BY a")
        db.commit([("u", [], [(8, 8), (8, 8), (9, None)]), ("u", [(8, 8), (9, None)], []), ("t", [], [(9, None, None)])])
        self.assertEqual(db.kept("v"), [(1, 1), (2, 1), (3, 1), (4, 1), (8, 1)])
        db.commit([("u", [(8, 8)], []), ("u", [], [(8, 8)])])
        self.assertEqual(db.kept("v"), [(1, 1), (2, 1), (3, 1), (4, 1), (8, 1)])

    def test_lists_and_tuples_and_later_changes(self):
        db = filled()
        db.view("v", "SELECT a FROM u")
        row, rows, changes = [5, 5], [], []
        rows.append(row)
        changes.append(["u", (), rows])
        db.commit(changes)
        row[0] = 6
        rows.clear()
        changes.clear()
        self.assertIn((5, 5), db.query("SELECT * FROM u")[1])
        self.assertIn((5,), db.kept("v"))
        db.commit((("u", ((5, 5),), [[7, None]]),))
        self.assertEqual(db.kept("v"), [(1,), (2,), (3,), (4,), (7,)])
        db.kept("v").clear()
        db.query("SELECT * FROM u")[1].clear()
        self.assertEqual(db.kept("v"), [(1,), (2,), (3,), (4,), (7,)])


class ViewsTest(Case):
    def test_refusals_of_view(self):
        db = filled()
        for name in NAMES_THAT_ARE_NONE + ("t", "u"):
            self.assertEqual(self.raises(BadName, db.view, name, "nonsense").at, -1)
        db.view("v", "SELECT a FROM t")
        self.assertEqual(self.raises(BadName, db.view, "v", "nonsense").at, -1)
        self.assertEqual(self.raises(BadText, db.view, "x", "SELECT a FROM").at, 13)
        self.assertEqual(self.raises(BadName, db.view, "x", "SELECT z FROM t").at, 7)
        self.assertEqual(self.raises(BadName, db.view, "x", "SELECT a FROM v").at, 14)
        self.assertEqual(self.raises(BadName, db.view, "x", "SELECT a FROM x").at, 14)
        self.assertEqual(self.raises(BadKind, db.view, "x", "SELECT a + b FROM t").at, 11)
        self.raises(TooMuch, db.view, "x", "SELECT a FROM t" + " " * 3000)
        self.raises(TooMuch, db.view, "x", "SELECT " + ", ".join(["a"] * 25) + " FROM t")
        for query in ("SELECT a FROM t ORDER BY a", "SELECT a FROM t LIMIT 1", "SELECT a + 1 FROM t", "SELECT t.a FROM t LEFT JOIN u ON t.a = u.a", "SELECT rank() OVER () FROM t",
                      "SELECT a FROM t WHERE a IN (SELECT a FROM u)", "SELECT a FROM u GROUP BY a HAVING sum(d) > 1"):
            self.assertEqual(self.raises(BadKind, db.view, "x", query).at, -1)
        self.assertEqual(db.views(), ("v",))
        self.raises(NoSuch, db.kept, "x")
        self.raises(NoSuch, db.kept, "t")
        self.raises(NoSuch, db.drop_view, "x")
        self.raises(NoSuch, db.drop_view, "t")

    def test_ten_and_eleven_views(self):
        db = filled()
        for number in range(10):
            self.assertIsNone(db.view("v" + str(number), "SELECT a FROM t WHERE a > " + str(number)))
        self.assertEqual(db.views(), tuple("v" + str(number) for number in range(10)))
        self.raises(TooMuch, db.view, "v10", "nonsense")
        self.raises(BadName, db.view, "v1", "nonsense")
        self.raises(BadName, db.view, "1", "nonsense")
        self.assertIsNone(db.drop_view("v3"))
        db.view("v3", "SELECT a FROM u")
        self.assertEqual(db.views(), tuple("v" + str(number) for number in (0, 1, 2, 4, 5, 6, 7, 8, 9, 3)))

    def test_names_of_views_and_tables_taken_and_free_again(self):
        db = filled()
        db.view("v", "SELECT a FROM t")
        self.raises(BadName, db.create, ("v",) + U[1:])
        db.drop_view("v")
        db.create(("v",) + U[1:])
        self.raises(BadName, db.view, "v", "SELECT a FROM t")
        self.assertEqual(db.query("SELECT count(*) FROM v")[1], [(0,)])
        db.drop("v")
        db.view("v", "SELECT a FROM t WHERE a > 1")
        self.assertEqual(db.query("SELECT count(*) FROM v")[1], [(1,)])

    def test_views_in_queries(self):
        db = filled()
        db.view("v", "SELECT a, count(*) AS n FROM u GROUP BY a")
        db.view("w2", "SELECT k, x FROM w WHERE y IS NULL")
        for query, wanted in (
                ("SELECT * FROM v", [(1, 1), (2, 1), (3, 1), (4, 1)]), ("SELECT n FROM v WHERE a = 4", [(1,)]), ("SELECT p.a, q.n FROM v p JOIN v AS q ON p.a = q.a + 1", [(2, 1), (3, 1), (4, 1)]),
                ("SELECT t.a, v.n FROM t, v WHERE t.a = v.a", [(1, 1), (2, 1)]), ("SELECT a FROM t WHERE a IN (SELECT a FROM v WHERE n = t.a)", [(1,)]),
                ("SELECT a, (SELECT max(n) FROM v WHERE v.a > t.a) FROM t", [(1, 1), (2, 1)]), ("WITH q AS (SELECT a FROM v) SELECT count(*) FROM q, v", [(16,)]),
                ("WITH v AS (SELECT 7 AS a) SELECT a FROM v", [(7,)]), ("WITH q AS (SELECT * FROM v), v AS (SELECT 1 AS z) SELECT q.a, v.z FROM q, v WHERE q.a < 2", [(1, 1)]),
                ("SELECT x FROM w2", [("y",)]), ("SELECT * FROM (SELECT n FROM v UNION SELECT k FROM w2) s", [(1,), (2,)]), ("SELECT EXISTS (SELECT 1 FROM v WHERE n > 1)", [(False,)]),
                ("SELECT v.* FROM v ORDER BY a DESC LIMIT 1", [(4, 1)]), ("SELECT a FROM t EXCEPT SELECT a FROM v", [])):
            with self.subTest(query):
                self.assertEqual(db.query(query)[1], wanted)
                self.assertEqual([db.query(query, choice=choice)[1] for choice in range(3)], [wanted] * 3)
        self.assertEqual(db.query("SELECT * FROM v")[0], ("a", "n"))
        self.assertEqual(self.raises(BadName, db.query, "SELECT d FROM v").at, 7)
        self.assertEqual(self.raises(BadName, db.query, "SELECT u.a FROM v").at, 7)

    def test_views_at_each_version(self):
        db = filled()
        db.view("v", "SELECT a, count(*) AS n FROM u GROUP BY a")
        self.assertEqual([db.query("SELECT * FROM v", version=version)[1] for version in range(5)],
                         [[], [(1, 2), (2, 1), (3, 1)], [(1, 2), (2, 1), (3, 1)], [(1, 1), (2, 1), (3, 1), (4, 1)], [(1, 1), (2, 1), (3, 1), (4, 1)]])
        self.assertEqual(db.kept("v"), [(1, 1), (2, 1), (3, 1), (4, 1)])

    def test_views_are_kept(self):
        rng = random.Random(3)
        db = filled()
        queries = {"a1": "SELECT a, count(*) AS n, sum(d) AS s, min(d) AS m FROM u GROUP BY a", "b1": "SELECT t.b, u.d FROM t JOIN u ON t.a = u.a", "c1": "SELECT DISTINCT d FROM u WHERE a < 3",
                   "d1": "SELECT a FROM t UNION ALL SELECT d FROM u", "e1": "SELECT a FROM t EXCEPT ALL SELECT a FROM u", "f1": "SELECT count(*) AS n, max(x) AS m FROM w, t WHERE w.k = t.a"}
        for name, query in queries.items():
            db.view(name, query)
        for number in range(25):
            changes = []
            for name, rows in (("t", [(rng.randrange(6), rng.choice("xy"), None)]), ("u", [(rng.randrange(4), rng.choice([None, 1, 2])) for _ in range(3)]), ("w", [(rng.randrange(4), "w" + str(number), 1)])):
                there = db.query("SELECT * FROM " + name)[1]
                gone = [row for row in there if rng.random() < 0.3]
                if name == "t" and any(row[0] == rows[0][0] for row in there if row not in gone):
                    rows = []
                changes.append((name, gone, rows))
            db.commit(rng.sample(changes, rng.randrange(1, 4)))
            if number % 7 == 0:
                db.pack("u", rng.randrange(5))
                db.settle("u", 2)
            for name, query in queries.items():
                wanted = by_hand(db, query, db.version())
                self.assertEqual(db.kept(name), wanted)
                self.assertEqual(db.query(query)[1], wanted)
                self.assertEqual(db.query("SELECT * FROM " + name)[1], wanted)

    def test_faults_of_sums(self):
        db = Database()
        db.create(SALES)
        great = 9 * 10 ** 17
        db.view("v", "SELECT who, sum(sum) AS s FROM sales GROUP BY who")
        db.commit([("sales", [], [(1, "a", great), (2, "a", great), (3, "b", 1)])])
        self.assertEqual(db.kept("v"), [("a", fault(4)), ("b", 1)])
        self.assertEqual(db.query("SELECT * FROM v")[1], fault(4))
        self.assertEqual(db.query("SELECT who FROM v")[1], [("a",), ("b",)])
        db.commit([("sales", [(2, "a", great)], [])])
        self.assertEqual(db.kept("v"), [("a", great), ("b", 1)])


class QueryTest(Case):
    QUERIES = [
        "SELECT * FROM t", "SELECT b, d FROM t JOIN u ON t.a = u.a WHERE d IS NOT NULL", "SELECT a, count(*), sum(d) FROM u GROUP BY a ORDER BY a DESC", "SELECT a FROM t WHERE a IN (SELECT d FROM u)",
        "SELECT t.a, x FROM t LEFT JOIN w ON t.a = w.k", "SELECT d / a FROM u", "SELECT 1 / d FROM u UNION SELECT 0", "SELECT d, place() OVER (ORDER BY d, a) FROM u", "VALUES (1), (2)",
        "SELECT a FROM u UNION ALL SELECT a FROM t LIMIT 3", "SELECT (SELECT a FROM u) FROM t", "SELECT 6 / (a - 1) FROM t",
    ]

    def test_queries_at_each_version(self):
        db = filled()
        for query in self.QUERIES:
            for version in range(5):
                wanted = by_hand(db, query, version)
                many = 1
                for choice in (0, 1, 2, 3, -1, 10 ** 20, -10 ** 9):
                    names, told = db.query(query, version=version, choice=choice)
                    self.assertEqual(told, wanted, (query, version, choice))
                    self.assertIs(type(names), tuple)
                    many += 1
                for settings in (dict(budget=4, batch=1), dict(workers=4, turns=(1, 2, 3, -1)), dict(budget=100000, batch=1000, workers=2, turns=[])):
                    self.assertEqual(db.query(query, version=version, **settings)[1], wanted)
            self.assertEqual(db.query(query), db.query(query, version=4))
            self.assertEqual(db.query(query), db.query(query, version=None))

    def test_versions_that_are_not_there(self):
        db = filled()
        for version in (-1, 5, 10 ** 20):
            self.raises(NoSuch, db.query, "SELECT 1", version=version)
            self.raises(NoSuch, db.query, "SELECT a FROM t", version=version)
            self.raises(BadName, db.query, "SELECT z FROM t", version=version)
            self.raises(BadText, db.query, "SELECT z FROM", version=version)
        self.assertEqual(db.query("SELECT 1", version=0)[1], [(1,)])

    def test_versions_ahead_of_a_table(self):
        db = filled()
        db.create(SALES)
        db.commit([("sales", [], ROWS)])
        db.view("v", "SELECT id FROM sales")
        for query in ("SELECT id FROM sales", "SELECT a FROM t WHERE a IN (SELECT id FROM sales)", "SELECT a FROM t WHERE EXISTS (SELECT a FROM u WHERE d = (SELECT max(id) FROM sales))",
                      "SELECT a FROM t WHERE FALSE AND EXISTS (SELECT 1 FROM sales)", "SELECT t.a FROM t LEFT JOIN sales ON id = a", "SELECT id FROM v", "SELECT a FROM t WHERE a IN (SELECT id FROM v)"):
            many = len(db.query(query)[1])
            for choice in range(6):
                for version in (0, 3):
                    self.raises(NoSuch, db.query, query, version=version, choice=choice)
                for version in (4, 5):
                    db.query(query, version=version, choice=choice)
                self.assertEqual(len(db.query(query, choice=choice)[1]), many)
        self.assertEqual(db.query("WITH q AS (SELECT id FROM sales) SELECT count(*) FROM t", version=1)[1], [(3,)])

    def test_the_same_answer_for_ever(self):
        db = filled()
        wanted = {(query, version): db.query(query, version=version) for query in self.QUERIES for version in range(5)}
        db.create(SALES)
        db.view("v", "SELECT a FROM t")
        db.commit([("t", [(1, "x", True)], []), ("u", [], [(7, number) for number in range(300)]), ("sales", [], ROWS)])
        for step in range(4):
            for (query, version), told in wanted.items():
                self.assertEqual(db.query(query, version=version), told)
                self.assertEqual(db.query(query + " ", version=version, choice=step), told)
            if step == 0:
                for number, name in enumerate(("t", "u", "w")):
                    db.pack(name, number)
            if step == 1:
                for name in ("t", "u", "w"):
                    db.settle(name, 1)
                db.drop("sales")
            if step == 2:
                db.drop_view("v")
                db.commit([("u", [(7, 3)], [])])

    def test_a_table_dropped_and_created_anew(self):
        db = filled()
        db.drop("w")
        self.raises(BadName, db.query, "SELECT x FROM w")
        db.create(("w", (("x", "int", False),), ()))
        self.raises(NoSuch, db.query, "SELECT x FROM w", version=3)
        self.assertEqual(db.query("SELECT x FROM w", version=4)[1], [])
        db.commit([("w", [], [(1,), (1,)])])
        self.assertEqual(db.query("SELECT x FROM w")[1], [(1,), (1,)])
        self.assertEqual(db.explain("SELECT x FROM w")[2], cost(db.explain("SELECT x FROM w")[1], {"w": (2, (1,))}))

    def test_settings_by_name_alone(self):
        db = filled()
        for call in (lambda: db.query("SELECT 1", 0), lambda: db.explain("SELECT 1", 0)):
            with self.assertRaises(TypeError):
                call()

    def test_explain(self):
        db = filled()
        db.view("v", "SELECT a, count(*) AS n FROM u GROUP BY a")
        stats = {"t": (2, (2, 1, 2)), "u": (4, (4, 3)), "w": (2, (2, 2, 1))}
        for query in self.QUERIES + ["SELECT v.n, t.b FROM v, t WHERE v.a = t.a AND n > 0"]:
            if "v" in query:
                plan = bind(parse(query.replace("FROM v", "FROM (SELECT a, count(*) AS n FROM u GROUP BY a) v")), db.schemas())[0]
            else:
                plan = bind(parse(query), db.schemas())[0]
            for choice in (0, 1, 5, -3):
                told = db.explain(query, choice=choice)
                self.assertIs(type(told), tuple)
                steps, running, price, counts = told
                self.assertIs(type(steps), list)
                self.assertIs(takes_all(plan, steps, db.schemas()), True)
                self.assertEqual(plan_of(running), steps[-1][2] if steps else plan)
                self.assertEqual(price, cost(running, stats))
                self.assertIsNone(counts)
                self.assertIsNone(db.explain(query, choice=choice, ran=False)[3])
                more = db.explain(query, choice=choice, ran=True)
                self.assertEqual(more[:3], told[:3])
                self.assertEqual([type(number) for number in more[3]], [int] * 5)
                steps.clear()
                self.assertEqual(db.explain(query, choice=choice)[:3], more[:3])
        self.assertLessEqual(db.explain(query)[2], db.explain(query, choice=1)[2])
        self.assertEqual(db.explain("SELECT a FROM t", ran=True)[3][:2], (1, 0))
        self.raises(BadText, db.explain, "SELECT")
        self.raises(BadName, db.explain, "SELECT z FROM t")

    def test_mistakes(self):
        db = filled()
        for error, query, at in ((BadText, "SELECT a FROM t WHERE", 21), (BadName, "SELECT a FROM z", 14), (BadKind, "SELECT a FROM t WHERE a", 22)):
            for call in (db.query, db.explain):
                self.assertEqual(self.raises(error, call, query).at, at)
        for call in (db.query, db.explain):
            self.raises(TooMuch, call, "SELECT 1" + " " * 3000)

    def test_at_the_bounds(self):
        db = filled()
        db.create(("wide", tuple((f"c{number}", "int", False) for number in range(12)), ((0,),)))
        db.commit([("wide", [], [tuple(range(number, number + 12)) for number in range(5)])])
        twice = "SELECT * FROM wide p JOIN wide q ON p.c0 = q.c0"
        deep = " UNION ALL ".join(["SELECT DISTINCT a FROM u"] + ["SELECT a FROM u"] * 57)
        large = "SELECT " + ", ".join(["+".join(["a"] * 47) for _ in range(21)] + ["+".join(["a"] * 21), "a", "abs(abs(a))"]) + " FROM u"
        self.assertEqual(nodes(bind(parse(large), db.schemas())[0]), 2000)
        for good, bad in ((twice, twice.replace("*", "p.*, q.*, 1")), (deep, deep.replace("u UNION", "u WHERE TRUE UNION", 1)), (large, large.replace("abs(abs(a))", "abs(abs(abs(a)))"))):
            with self.subTest(good[:40]):
                wanted = by_hand(db, good, db.version())
                for choice in range(4):
                    self.assertEqual(db.query(good, choice=choice, budget=40)[1], wanted)
                steps, running, _, counts = db.explain(good, ran=True)
                plan = bind(parse(good), db.schemas())[0]
                self.assertIs(takes_all(plan, steps, db.schemas()), True)
                self.assertEqual(plan_of(running), steps[-1][2] if steps else plan)
                self.assertEqual(len(counts), 5)
                for call in (db.query, db.explain, lambda text: db.view("v", text), lambda text: bind(parse(text), db.schemas())):
                    self.raises(TooMuch, call, bad)
        db.view("v", twice)
        self.assertEqual(db.kept("v"), by_hand(db, twice, db.version()))
        self.raises(TooMuch, db.query, "SELECT v.*, 1 FROM v")
        self.raises(TooMuch, db.query, "SELECT v.c1 FROM v, t")
        db.view("v2", deep)
        self.assertEqual(db.kept("v2"), by_hand(db, deep, db.version()))
        self.raises(TooMuch, db.query, "SELECT a FROM v2")
        self.raises(BadKind, db.view, "v3", large)

    def test_many_rows(self):
        db = Database()
        db.create(U)
        db.create(W)
        db.view("v", "SELECT d, count(*) AS n FROM u GROUP BY d")
        db.commit([("u", [], [(number, number % 10) for number in range(2000)]), ("w", [], [(number, "w" + str(number), number) for number in range(1500)])])
        self.assertEqual(db.query("SELECT count(*) FROM u JOIN w ON u.a = w.k WHERE d = 3")[1], [(150,)])
        self.assertEqual(db.query("SELECT count(*) FROM u WHERE EXISTS (SELECT 1 FROM w WHERE w.k = u.a)")[1], [(1500,)])
        self.assertEqual(db.kept("v"), [(number, 200) for number in range(10)])
        counts = db.explain("SELECT a FROM u WHERE a = 1999", ran=True)[3]
        self.assertEqual(counts[:2], (1, 7))


if __name__ == "__main__":
    unittest.main()
