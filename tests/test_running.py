"""Running plans and the plans that they work out ([10.1])."""

import random
import unittest

from peristyle.running import plan_of, simple
from tests.chanceplans import Chance
from tests.plans import ONE_ROW, SCAN_T, SCAN_U, TRUE, asc, col, cols, group, join, num, op, outer, select, top, where
from tests.rulecases import FALSE, LOW, SHAKY, conj, distinct, eq, exists, fun, inn, scalar, union, window

SCAN = ("scan", "t", None)
OTHER = ("scan", "u", None)
PLANS = [
    (SCAN_T, SCAN),
    (ONE_ROW, ONE_ROW),
    (("rows", ("int", "text"), ((1, "scan"), (None, None))), ("rows", ("int", "text"), ((1, "scan"), (None, None)))),
    (where(LOW, SCAN_T), ("where", LOW, SCAN)),
    (select(cols(1, 0), SCAN_T), ("select", cols(1, 0), SCAN)),
    (select((), ONE_ROW), ("select", (), ONE_ROW)),
    (union(SCAN_T, SCAN_T), ("union", SCAN, SCAN)),
    (("except", SCAN_U, where(LOW, SCAN_U)), ("except", OTHER, ("where", LOW, OTHER))),
    (("meet", where(LOW, SCAN_U), SCAN_U), ("meet", ("where", LOW, OTHER), OTHER)),
    (distinct(SCAN_T), ("distinct", SCAN)),
    (group((col(0),), (("rows", False, None),), SCAN_T), ("group", (col(0),), (("rows", False, None),), SCAN)),
    (group((), (), SCAN_T), ("group", (), (), SCAN)),
    (window((fun("place", None, (col(0),), (asc(1),)),), SCAN_T), ("window", (fun("place", None, (col(0),), (asc(1),)),), SCAN)),
    (window((), SCAN_T), ("window", (), SCAN)),
    (top((asc(0),), None, 3, SCAN_T), ("top", (asc(0),), None, 3, SCAN)),
    (top((), 0, 0, SCAN_T), ("top", (), 0, 0, SCAN)),
    (where(exists(where(eq(outer(1, 0), col(0)), SCAN_U)), SCAN_T), ("where", exists(where(eq(outer(1, 0), col(0)), SCAN_U)), SCAN)),
    (select((scalar(top((), 1, 0, select((col(0),), SCAN_U))),), SCAN_T), ("select", (scalar(top((), 1, 0, select((col(0),), SCAN_U))),), SCAN)),
    (join(SCAN_T, where(inn(col(0), select((col(0),), SCAN_U)), SCAN_U), SHAKY, "full"), ("loop", "full", SHAKY, SCAN, ("where", inn(col(0), select((col(0),), SCAN_U)), OTHER))),
] + [(join(SCAN_T, SCAN_U, LOW, kind), ("loop", kind, LOW, SCAN, OTHER)) for kind in ("inner", "left", "right", "full", "semi", "anti")]


class RunningTest(unittest.TestCase):
    def test_each_word(self):
        for plan, running in PLANS:
            with self.subTest(plan):
                self.assertEqual(simple(plan), running)
                self.assertEqual(plan_of(running), plan)

    def test_inside_of_one_another(self):
        for plan, running in PLANS:
            for other, below in PLANS:
                self.assertEqual(simple(distinct(union(plan, top((), 1, 2, other)))), ("distinct", ("union", running, ("top", (), 1, 2, below))))
                self.assertEqual(plan_of(("loop", "semi", TRUE, running, ("top", (), 1, 2, below))), join(plan, top((), 1, 2, other), TRUE, "semi"))

    def test_a_scan_with_a_condition(self):
        self.assertEqual(plan_of(("scan", "t", LOW)), where(LOW, SCAN_T))
        self.assertEqual(plan_of(("where", SHAKY, ("scan", "t", LOW))), where(SHAKY, where(LOW, SCAN_T)))
        self.assertEqual(plan_of(("scan", "t", TRUE)), where(TRUE, SCAN_T))

    def test_joins_by_keys(self):
        cond = conj(eq(col(0), col(3)), conj(FALSE, eq(op("abs", col(4)), num(1))))
        for word in ("hash", "merge"):
            for kind in ("inner", "left", "right", "full", "semi", "anti"):
                running = (word, kind, (col(0),), (col(0),), cond, SCAN, ("scan", "u", LOW))
                self.assertEqual(plan_of(running), join(SCAN_T, where(LOW, SCAN_U), cond, kind))
                running = (word, kind, (col(0), num(1)), (col(0), op("abs", col(1))), cond, SCAN, OTHER)
                self.assertEqual(plan_of(running), join(SCAN_T, SCAN_U, cond, kind))

    def test_groups_by_sorting(self):
        for keys in ((), (col(0),), (op("div", num(1), col(0)), col(1))):
            aggs = (("sum", True, col(0)), ("rows", False, None))
            self.assertEqual(plan_of(("sorted", keys, aggs, SCAN)), group(keys, aggs, SCAN_T))

    def test_by_chance(self):
        rng = random.Random(5)
        chance = Chance(rng)
        for _ in range(400):
            plan = chance.right_plan(rng.randrange(6))
            self.assertEqual(plan_of(simple(plan)), plan)

    def test_a_deep_plan(self):
        plan = SCAN_T
        for _ in range(57):
            plan = distinct(plan)
        self.assertEqual(plan_of(simple(plan)), plan)


if __name__ == "__main__":
    unittest.main()
