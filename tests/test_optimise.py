"""The optimiser: its candidates ([9.1] to [9.4])."""

import random
import unittest

from peristyle.binder import bind
from peristyle.checker import takes_all
from peristyle.estimate import cost
from peristyle.facts import facts, safe
from peristyle.grammar import parse
from peristyle.meaning import answer
from peristyle.optimise import candidates
from peristyle.plan import kinds, moved, nodes, parts
from peristyle.run import run
from peristyle.running import inputs_of, plan_of
from tests.chanceplans import Chance
from tests.plans import SCAN_T, SCAN_U, SCHEMAS, col, cols, join, num, op, outer, select, top, where
from tests.rulecases import KEYED, LOW, RULE_SCHEMAS, SHAKY, TAKEN, conj, eq, exists, inn, neg
from tests.runs import in_segments
from tests.test_running import PLANS

QUERIES = [
    "SELECT * FROM t WHERE a = 1 AND b = 'x'",
    "SELECT t.b, u.d FROM t, u WHERE t.a = u.a AND u.d < 3",
    "SELECT t.b, w.y FROM t, u, w WHERE t.a = u.a AND w.k = u.d AND t.b = w.x AND w.y > 1",
    "SELECT x.a FROM t x JOIN t y ON x.a = y.a JOIN u z ON z.a = y.a JOIN w v ON v.k = z.d WHERE v.x = 'x'",
    "SELECT a, count(*), sum(d), count(DISTINCT d) FROM u GROUP BY a HAVING a > 1",
    "SELECT DISTINCT t.a FROM t LEFT JOIN u ON t.a = u.a WHERE u.d = 2",
    "SELECT u.a FROM u LEFT JOIN t ON u.a = t.a",
    "SELECT a FROM t WHERE a IN (SELECT d FROM u WHERE u.a > 0) AND EXISTS (SELECT 1 FROM w WHERE w.k = t.a)",
    "SELECT a FROM t WHERE NOT EXISTS (SELECT 1 FROM u WHERE u.a = t.a)",
    "SELECT a, (SELECT max(d) FROM u WHERE u.a = t.a) FROM t ORDER BY a DESC LIMIT 3",
    "SELECT a FROM t UNION SELECT d FROM u EXCEPT SELECT k FROM w",
    "SELECT a, rank() OVER (PARTITION BY d ORDER BY a), sum(a) OVER (ORDER BY d, a) FROM u",
    "WITH q AS (SELECT a, 1 + 2 AS n FROM t WHERE c) SELECT q.n, u.d FROM q FULL JOIN u ON q.a = u.a",
    "SELECT a FROM (SELECT a, d, a + d AS e FROM u) s WHERE TRUE AND e > 2 OR FALSE",
    "SELECT t.a FROM t RIGHT JOIN u ON t.a = u.a WHERE u.d = 1 AND u.a < 5",
    "VALUES (1, 'x'), (2, NULL)",
    "SELECT a / 0 FROM t",
]
WRONG = [{name: told for name, _, _ in RULE_SCHEMAS} for told in (
    (0, (0, 0, 0)), (1, (1, 1, 1)), (10 ** 12, (10 ** 12,) * 3), (10 ** 12, (0, 0, 0)), (0, (10 ** 12,) * 3), (3, ()), (3, (1,) * 20))]


def exact(tables):
    return {name: (len(rows), tuple(len({row[place] for row in rows} - {None}) for place in range(len(schema[1]))))
            for name, (schema, rows) in tables.items()}


class OptimiseTest(unittest.TestCase):
    def check_methods(self, running, schemas):
        """Joins by keys have keys, and a safe condition."""
        for below in inputs_of(running):
            self.check_methods(below, schemas)
        if running[0] in ("hash", "merge"):
            _, kind, lefts, rights, cond, left, right = running
            self.assertIn(kind, ("inner", "left", "right", "full", "semi", "anti"))
            self.assertGreater(len(lefts), 0)
            self.assertEqual(len(lefts), len(rights))
            faults = [facts(plan_of(side), schemas)[1] for side in (left, right)]
            self.assertIs(safe(cond, faults[0] + faults[1]), True)
            many = len(faults[0])
            for one, other in zip(lefts, rights):
                other = moved(other, range(many, many + len(faults[1])))
                self.assertTrue(eq(one, other) in parts(cond) or eq(other, one) in parts(cond))

    def check(self, plan, stats, tables=None, schemas=RULE_SCHEMAS):
        """The candidates, after a look at each of them."""
        found = candidates(plan, schemas, stats)
        self.assertIs(type(found), list)
        self.assertTrue(1 <= len(found) <= 64)
        costs = [cost(running, stats) for _, running in found]
        self.assertEqual(costs[0], min(costs))
        wanted = answer(plan, tables) if tables is not None else None
        for told in found:
            self.assertIs(type(told), tuple)
            steps, running = told
            self.assertIs(type(steps), list)
            self.assertIs(takes_all(plan, steps, schemas), True)
            last = steps[-1][2] if steps else plan
            self.assertEqual(plan_of(running), last)
            self.assertEqual(kinds(last, schemas), kinds(plan, schemas))
            self.check_methods(running, schemas)
            if tables is not None:
                self.assertEqual(run(running, in_segments(tables, 0, 5), budget=7)[0], wanted, (plan, running))
        return found

    def test_each_word(self):
        rng = random.Random(2)
        plans = [plan for plan, _ in PLANS] + [before for cases in TAKEN.values() for before, _ in cases]
        for number, plan in enumerate(plans):
            tables = Chance(rng, RULE_SCHEMAS).tables(5)
            with self.subTest(plan):
                self.check(plan, exact(tables), tables)
                self.check(plan, WRONG[number % len(WRONG)], tables)

    def test_queries(self):
        rng = random.Random(3)
        for query in QUERIES:
            plan = bind(parse(query), RULE_SCHEMAS)[0]
            for most in (0, 4, 12):
                tables = Chance(rng, RULE_SCHEMAS).tables(most)
                with self.subTest(query=query, most=most):
                    self.check(plan, exact(tables), tables)
            for stats in WRONG:
                self.check(plan, stats, tables)

    def test_by_chance(self):
        rng = random.Random(4)
        chance = Chance(rng)
        for number in range(120):
            plan = chance.right_plan(rng.randrange(1, 6))
            tables = chance.tables(6)
            self.check(plan, exact(tables) if number % 3 else rng.choice(WRONG), tables, SCHEMAS)

    def test_other_tables_do_not_matter(self):
        other = (("z", (("a", "int", False),), ((0,),)),)
        for query in QUERIES:
            plan = bind(parse(query), RULE_SCHEMAS)[0]
            read = [name for name, _, _ in RULE_SCHEMAS if f"('scan', '{name}')" in repr(plan)]
            stats = {name: (100, (30, 20, 10)) for name in read}
            own = tuple(schema for schema in RULE_SCHEMAS if schema[0] in read)
            wanted = candidates(plan, own, stats)
            for more in (0, 10 ** 12):
                told = {name: (more, (more,)) for name, _, _ in RULE_SCHEMAS + other}
                self.assertEqual(candidates(plan, other + own[::-1], {**told, **stats}), wanted)
                self.assertEqual(candidates(plan, RULE_SCHEMAS, {**told, **stats}), wanted)

    def test_the_same_each_time(self):
        for query in QUERIES:
            plan = bind(parse(query), RULE_SCHEMAS)[0]
            self.assertEqual(candidates(plan, RULE_SCHEMAS, WRONG[2]), candidates(plan, RULE_SCHEMAS, dict(WRONG[2])))

    def test_what_is_handed_in_stays_and_what_is_told_may_change(self):
        plan = where(conj(LOW, KEYED), join(SCAN_T, SCAN_U))
        stats = {"t": (9, (9, 3, 2)), "u": (9, (3, 2))}
        found = candidates(plan, RULE_SCHEMAS, stats)
        copy = eval(repr(found))
        self.assertEqual(stats, {"t": (9, (9, 3, 2)), "u": (9, (3, 2))})
        for steps, _ in found:
            steps.clear()
        found.clear()
        self.assertEqual(candidates(plan, RULE_SCHEMAS, stats), copy)

    def test_joins_are_made_by_keys_and_wheres_go_inside(self):
        """Nothing promises this, but an optimiser that does nothing were of no use."""
        stats = {name: (1000, (1000, 1000, 1000)) for name, _, _ in RULE_SCHEMAS}
        plan = bind(parse(QUERIES[1]), RULE_SCHEMAS)[0]
        steps, running = self.check(plan, stats)[0]
        words = []
        waiting = [running]
        while waiting:
            part = waiting.pop()
            words.append(part[0])
            waiting.extend(inputs_of(part))
        self.assertIn("hash", words)
        self.assertNotIn("where", words)
        self.assertNotEqual(steps, [])
        for kind, cond in (("semi", exists(select((num(1),), where(eq(outer(1, 0), col(0)), SCAN_U)))),
                           ("anti", neg(exists(select((num(1),), where(eq(outer(1, 0), col(0)), SCAN_U))))),
                           ("semi", inn(col(0), select((col(1),), where(eq(outer(1, 0), col(0)), SCAN_U))))):
            running = self.check(where(cond, SCAN_T), stats)[0][1]
            self.assertEqual(running[:2], ("hash", kind))
        self.assertLess(cost(running, stats), 10 ** 5)

    def test_at_the_bounds(self):
        wide = join(select(cols(*[0] * 12), SCAN_T), select(cols(*[0] * 12), SCAN_T), conj(eq(col(0), col(12)), LOW), "inner")
        self.check(wide, WRONG[1])
        self.check(where(conj(LOW, eq(col(1), col(0))), join(wide[3], wide[4], eq(col(0), col(12)), "semi")), WRONG[2])
        deep = where(conj(LOW, SHAKY), SCAN_U)
        for level in range(54):
            deep = (where(conj(LOW, LOW), deep), select(cols(1, 0), deep), ("distinct", deep), top((), None, 0, deep))[level % 4]
        kinds(deep, SCHEMAS)
        self.check(deep, WRONG[2])
        # Another order of this join has one level more, and sixty are there already.
        deep = join(SCAN_T, SCAN_U)
        for _ in range(57):
            deep = top((), None, 0, deep)
        for plan, there in ((deep, True), (top((), None, 0, deep), False)):
            kinds(plan, SCHEMAS)
            for stats in WRONG[:4]:
                names = [step[0] for steps, _ in self.check(plan, stats) for step in steps]
                self.assertEqual("swap" in names, there)
        # A where that goes into both sides of a union brings its nodes twice.
        cond = LOW
        for _ in range(7):
            cond = conj(cond, op("lt", col(1), num(2)))
        largest = []
        for many in range(36, 60, 3):
            plans = [select([op("neg", op("neg", op("neg", op("neg", op("neg", op("neg", col(0)))))))] * 4, SCAN_U)] * many
            while len(plans) > 1:
                plans = [("union", *plans[place:place + 2]) if place + 1 < len(plans) else plans[place] for place in range(0, len(plans), 2)]
            plan = where(cond, plans[0])
            kinds(plan, SCHEMAS)
            steps = [step for told, _ in self.check(plan, WRONG[2]) for step in told]
            largest.append(max(nodes(step[2]) for step in steps))
        # Here and there not all of it had a place.
        self.assertGreater(max(largest), 1960)
        large = SCAN_U
        for _ in range(8):
            large = join(large, SCAN_U, eq(col(0), col(2)), "semi")
        cond = LOW
        for number in range(300):
            cond = conj(op("lt", col(number % 2), num(number)), LOW) if number % 10 == 0 else op("not", cond)
            large = where(cond, large) if number % 60 == 0 else large
        self.check(large, WRONG[2])
        many = select([eq(op("add", col(0), num(number)), op("add", num(1), op("add", num(2), op("neg", col(1))))) for number in range(24)], SCAN_U)
        for _ in range(6):
            many = ("union", many, many[:2] + (SCAN_U,)) if many[0] == "select" else ("union", many, many[2])
        kinds(many, SCHEMAS)
        self.check(many, WRONG[2])


if __name__ == "__main__":
    unittest.main()
