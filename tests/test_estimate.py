"""Size and cost of running plans ([10.4])."""

import random
import unittest

from peristyle.estimate import cost, size
from peristyle.running import inputs_of, simple
from tests.chanceplans import Chance
from tests.plans import SCHEMAS, asc, col, num, op, outer, text
from tests.rulecases import FALSE, LOW, NULL, TRUE, both, conj, eq, exists, fun, inn, neg, scalar, where
from tests.test_running import OTHER, PLANS, SCAN

EXACT = [{name: (many, (many,) * len(columns)) for name, columns, _ in SCHEMAS} for many in (0, 1, 100, 10 ** 12)]
WRONG = [{name: told for name, _, _ in SCHEMAS} for told in (
    (0, (5, 5, 5)), (5, (0, 0, 0)), (3, (10 ** 12,) * 3), (10 ** 12, (0,) * 3), (7, ()), (7, (1,)), (7, (1,) * 30), (-5, (-1, -2, -3)))]
KEYED = eq(col(0), col(3))
MORE = [("scan", "t", cond) for cond in (TRUE, FALSE, NULL, LOW, KEYED[2] and eq(col(0), num(1)), neg(LOW), both(LOW, LOW), conj(LOW, neg(TRUE)),
                                         op("like", col(1), text("x")), op("isnull", col(1)), op("ne", col(0), num(1)), col(2),
                                         exists(where(eq(outer(1, 0), col(0)), ("scan", "u"))), inn(col(0), ("scan", "u")))]
MORE += [(word, kind, (col(0),), (col(0),), conj(KEYED, LOW), SCAN, OTHER) for word in ("hash", "merge")
         for kind in ("inner", "left", "right", "full", "semi", "anti")]
MORE += [("sorted", keys, (("sum", False, col(0)),), SCAN) for keys in ((), (col(0),), (col(0), op("abs", col(0))))]
MORE += [("select", (scalar(("scan", "u")), op("abs", scalar(where(eq(outer(1, 0), col(0)), ("scan", "u")))), num(1)), SCAN),
         ("top", (asc(0),), 10 ** 6, 3, SCAN), ("top", (), None, 10 ** 6, SCAN), ("window", (fun("place"), fun("sum", col(0))), SCAN)]


class EstimateTest(unittest.TestCase):
    def check(self, running, stats):
        """The cost, after a look at it, at the size, and at those of all below."""
        told = [size(running, stats), cost(running, stats)]
        for number in told:
            self.assertIs(type(number), int)
            self.assertGreaterEqual(number, 0)
        self.assertEqual([size(running, stats), cost(running, stats)], told)
        for below in inputs_of(running):
            self.assertLessEqual(self.check(below, stats), told[1])
        return told[1]

    def test_each_word(self):
        for running in [running for _, running in PLANS] + MORE:
            for stats in EXACT + WRONG:
                with self.subTest(running=running, stats=stats):
                    self.check(running, stats)

    def test_by_chance(self):
        rng = random.Random(6)
        chance = Chance(rng)
        for _ in range(200):
            running = simple(chance.right_plan(rng.randrange(6)))
            for stats in (EXACT[0], EXACT[3], WRONG[rng.randrange(len(WRONG))]):
                self.check(running, stats)

    def test_the_same_whatever_other_tables_have(self):
        for running in [running for _, running in PLANS] + MORE:
            if "'u'" not in repr(running):
                wanted = [(size(running, {"t": stats["t"]}), cost(running, {"t": stats["t"]})) for stats in EXACT]
                for other in ((0, ()), (10 ** 12, (1, 2))):
                    found = [(size(running, {"u": other, "t": stats["t"]}), cost(running, {"u": other, "t": stats["t"]})) for stats in EXACT]
                    self.assertEqual(found, wanted)

    def test_more_rows_cost_more(self):
        self.assertLess(cost(SCAN, EXACT[2]), cost(SCAN, EXACT[3]))
        self.assertEqual([size(SCAN, stats) for stats in EXACT], [0, 1, 100, 10 ** 12])
        self.assertEqual(size(("scan", "t", FALSE), EXACT[2]), 0)
        self.assertEqual(size(("scan", "t", eq(col(0), num(3))), EXACT[2]), 1)
        self.assertEqual(size(("loop", "inner", TRUE, SCAN, OTHER), EXACT[2]), 10000)
        self.assertEqual(size(("hash", "inner", (col(0),), (col(0),), KEYED, SCAN, OTHER), EXACT[2]), 100)
        self.assertLess(cost(("hash", "inner", (col(0),), (col(0),), KEYED, SCAN, OTHER), EXACT[2]), cost(("loop", "inner", KEYED, SCAN, OTHER), EXACT[2]))

    def test_statistics_stay(self):
        stats = {"t": (3, (1, 2, 3)), "u": (4, (1, 2))}
        for _, running in PLANS:
            self.check(running, stats)
        self.assertEqual(stats, {"t": (3, (1, 2, 3)), "u": (4, (1, 2))})


if __name__ == "__main__":
    unittest.main()
