"""What is known of a plan ([7.1], [7.2])."""

import itertools
import random
import unittest
import unittest.mock

from peristyle.facts import facts, known, safe
from peristyle.meaning import answer, bag, value_of
from peristyle.operators import SIGNATURES, may_fault, worked
from peristyle.plan import kinds
from peristyle.value import is_fault, sorted_rows
from tests.chanceplans import Chance, VALUES
from tests.plans import (ONE_ROW, SCAN_T, SCAN_U, SCAN_W, SCHEMAS, TRUE, asc, col, cols, group, join, num, op, outer, select, text, top,
                         where)

V = ("v", (("p", "int", False), ("q", "int", True), ("r", "int", False)), ((0,), (0, 2)))
SCAN_V = ("scan", "v")
ALL = (*SCHEMAS, V)
# Columns that may be a fault: a quotient of column 0, of two columns; the others are none.
QUOTIENTS = select([op("div", num(1), col(0)), col(1)], SCAN_U)
FAILING = where(op("eq", op("div", num(1), col(0)), num(1)), SCAN_U)


def nulls(plan):
    return facts(plan, ALL)[0]


def faulty(plan):
    return facts(plan, ALL)[1]


def fails(plan):
    return facts(plan, ALL)[2]


def unlike(plan):
    return set(facts(plan, ALL)[3])


class NullsTest(unittest.TestCase):
    def check(self, plan, *wanted):
        kinds(plan, ALL)
        self.assertEqual(nulls(plan), wanted)

    def expr(self, expr, wanted, plan=SCAN_T):
        self.check(select([expr], plan), wanted)

    def test_scans_and_rows(self):
        self.check(SCAN_T, False, True, True)
        self.check(("rows", ("int", "int", "int"), ((1, None, 1), (2, 2, 2))), False, True, False)
        self.check(("rows", ("int",), ()), False)
        self.check(ONE_ROW)

    def test_leaves(self):
        self.expr(num(1), False)
        self.expr(num(None), True)
        self.expr(col(0), False)
        self.expr(col(1), True)

    def test_operators(self):
        """Of arguments that are never null all but nullif are never null; of others most may be."""
        for name, (wanted, _) in SIGNATURES.items():
            told = [{"int": ("int", 0, 1), "text": ("text", 1, 2), "bool": ("bool", 2, 3), "any": ("int", 0, 1)}[kind] for kind in wanted]
            plan = ("rows", ("int", "text", "bool"), ((1, "x", True),))
            maybe = ("rows", ("int", "text", "bool"), ((None, None, None),))
            expr = op(name, *[col(index) for _, index, _ in told])
            self.expr(expr, name == "nullif", plan)
            self.expr(expr, name not in ("isnull", "same"), maybe)
            if len(wanted) > 1:
                consts = op(name, col(told[0][1]), *[("const", kind, {"int": 1, "text": "x", "bool": True}[kind]) for kind, _, _ in told[1:]])
                self.expr(consts, name not in ("same", "coalesce"), maybe)

    def test_coalesce_and_case(self):
        self.expr(op("coalesce", text("x"), col(1)), False)
        self.expr(op("coalesce", col(1), text("x")), False)
        self.expr(op("coalesce", col(1), col(1)), True)
        self.expr(("case", ((col(2), col(0)), (col(2), num(1))), num(2)), False)
        self.expr(("case", ((col(2), num(None)),), num(2)), True)
        self.expr(("case", ((TRUE, num(1)),), num(None)), True)

    def test_nested_plans(self):
        self.expr(("exists", SCAN_U), False)
        self.expr(("scalar", select(cols(0), where(op("eq", col(0), num(1)), SCAN_T))), True)
        self.expr(("in", num(1), select(cols(1), SCAN_U)), True)
        inner = facts(select([("exists", where(op("eq", outer(1, 0), col(0)), SCAN_U))], SCAN_T), ALL)
        self.assertEqual(inner[0], (False,))

    def test_plans(self):
        self.check(where(TRUE, SCAN_T), False, True, True)
        self.check(join(SCAN_U, SCAN_U), False, True, False, True)
        self.check(join(SCAN_U, SCAN_U, kind="left"), False, True, True, True)
        self.check(join(SCAN_U, SCAN_U, kind="right"), True, True, False, True)
        self.check(join(SCAN_U, SCAN_U, kind="full"), True, True, True, True)
        self.check(join(SCAN_U, SCAN_T, kind="semi"), False, True)
        self.check(join(SCAN_U, SCAN_T, kind="anti"), False, True)
        self.check(("distinct", SCAN_U), False, True)
        self.check(("union", SCAN_U, select(cols(0, 0), SCAN_U)), False, True)
        self.check(("union", select(cols(0, 0), SCAN_U), select(cols(1, 0), SCAN_U)), True, False)
        self.check(top([asc(1)], 1, 1, SCAN_U), False, True)
        left = select(cols(0, 1), SCAN_U)
        self.assertEqual(nulls(("except", left, select(cols(1, 1), SCAN_U))), (False, True))
        self.assertEqual(nulls(("meet", left, left)), (False, True))

    def test_groups_and_windows(self):
        plan = group(cols(0, 1), [("rows", False, None), ("count", False, col(1)), ("sum", False, col(1)), ("min", False, col(1))], SCAN_U)
        self.check(plan, False, True, False, False, True, True)
        self.check(group([], [("sum", False, col(0))], SCAN_U), True)
        funs = (("rows", None, (), (), None), ("count", col(1), (), (), None), ("lag", col(0), (), (), None), ("max", col(1), (), (), None))
        self.check(("window", funs, SCAN_U), False, True, False, False, True, True)


class FaultsTest(unittest.TestCase):
    def expr(self, expr, wanted, plan=SCAN_T):
        kinds(select([expr], plan), ALL)
        self.assertEqual(faulty(select([expr], plan)), (wanted,), expr)

    def test_leaves(self):
        self.expr(num(1), False)
        self.expr(num(None), False)
        self.expr(col(0), False)
        self.expr(col(0), True, QUOTIENTS)
        self.expr(col(1), False, QUOTIENTS)

    def test_operators(self):
        plan = ("rows", ("int", "text", "bool"), ())
        bad = select([op("div", num(1), num(0)), op("cat", text("x"), text("x")), op("eq", op("div", num(1), num(0)), num(1))], ONE_ROW)
        for name, (wanted, _) in SIGNATURES.items():
            expr = op(name, *[col({"int": 0, "text": 1, "bool": 2, "any": 0}[kind]) for kind in wanted])
            self.expr(expr, may_fault(name), plan)
            self.expr(expr, True, bad)

    def test_case(self):
        quotient = op("div", num(1), col(0))
        self.expr(("case", ((col(2), num(1)),), num(2)), False)
        self.expr(("case", ((op("eq", quotient, num(1)), num(1)),), num(2)), True)
        self.expr(("case", ((col(2), quotient),), num(2)), True)
        self.expr(("case", ((col(2), num(2)), (col(2), num(1))), quotient), True)

    def test_nested_plans(self):
        self.expr(("exists", SCAN_U), False)
        self.expr(("exists", QUOTIENTS), False)
        self.expr(("exists", FAILING), True)
        one = select(cols(0), SCAN_U)
        self.expr(("in", col(0), one), False)
        self.expr(("in", op("div", num(1), col(0)), one), True)
        self.expr(("in", col(0), select(cols(0), QUOTIENTS)), True)
        self.expr(("in", col(0), select(cols(0), FAILING)), True)
        self.expr(("scalar", one), True)
        self.expr(("scalar", group([], [("max", False, col(0))], SCAN_U)), False)
        self.expr(("scalar", group([], [("max", False, col(0))], QUOTIENTS)), True)
        self.expr(("scalar", group([], [("sum", False, col(0))], SCAN_U)), True)
        self.expr(("scalar", group([], [("count", False, col(0))], FAILING)), True)
        self.expr(("scalar", select([num(1)], group([], [], SCAN_U))), False)
        self.expr(("scalar", group(cols(0), [], SCAN_U)), True)

    def test_rows_of_the_queries_around(self):
        """Whatever stands in them: also a fault."""
        plan = where(("exists", where(op("eq", outer(1, 0), col(0)), SCAN_U)), SCAN_T)
        self.assertIs(fails(plan), True)
        self.assertIs(fails(where(("exists", where(op("eq", col(1), col(0)), SCAN_U)), SCAN_T)), False)

    def test_groups_and_windows(self):
        arg = op("div", num(1), col(0))
        aggs = [("rows", False, None), ("count", False, col(0)), ("count", False, arg), ("sum", False, col(0)), ("avg", False, col(0)),
                ("avg", True, arg), ("min", False, arg), ("max", False, col(1))]
        plan = group([col(0), arg], aggs, SCAN_U)
        kinds(plan, ALL)
        self.assertEqual(faulty(plan), (False, False, False, False, True, True, False, True, True, False))
        funs = tuple((name, told, (), (), None) for name, _, told in aggs) + (
            ("rank", None, (), (), None), ("dense", None, (), (), None), ("place", None, (), (), None), ("lag", col(0), (), (), None),
            ("lead", arg, (), (), None))
        self.assertEqual(faulty(("window", funs, SCAN_U))[2:], (False, False, True, True, False, True, True, False,
                                                               False, False, False, False, True))

    def test_plans(self):
        self.assertEqual(faulty(SCAN_T), (False, False, False))
        self.assertEqual(faulty(("rows", ("int",), ((None,),))), (False,))
        self.assertEqual(faulty(where(TRUE, QUOTIENTS)), (True, False))
        self.assertEqual(faulty(("union", QUOTIENTS, SCAN_U)), (True, False))
        self.assertEqual(faulty(("union", SCAN_U, QUOTIENTS)), (True, False))
        self.assertEqual(faulty(join(QUOTIENTS, QUOTIENTS)), (True, False, True, False))
        self.assertEqual(faulty(join(SCAN_U, QUOTIENTS, kind="semi")), (False, False))

    def test_plans_that_fail(self):
        cond = op("eq", op("div", num(1), col(0)), num(1))
        good = op("eq", col(0), num(1))
        self.assertIs(fails(SCAN_T), False)
        self.assertIs(fails(ONE_ROW), False)
        self.assertIs(fails(QUOTIENTS), False)
        for plan, wanted in [
                (where(good, SCAN_U), False), (where(cond, SCAN_U), True), (where(good, QUOTIENTS), True), (where(op("eq", col(1), num(1)), QUOTIENTS), False),
                (join(SCAN_U, SCAN_T, good), False), (join(SCAN_U, SCAN_T, cond, "anti"), True), (join(QUOTIENTS, SCAN_T), False),
                (join(SCAN_T, QUOTIENTS, op("eq", col(0), col(3))), True), (join(SCAN_T, FAILING), True), (join(FAILING, SCAN_T), True),
                (group(cols(0), [], SCAN_U), False), (group(cols(0), [], QUOTIENTS), True), (group(cols(1), [("sum", False, col(0))], QUOTIENTS), False),
                (group([], [], FAILING), True), (("distinct", SCAN_U), False), (("distinct", QUOTIENTS), True), (("union", QUOTIENTS, SCAN_U), False),
                (("union", SCAN_U, FAILING), True), (("except", SCAN_U, QUOTIENTS), True), (("except", QUOTIENTS, SCAN_U), True),
                (("except", SCAN_U, SCAN_U), False), (("meet", SCAN_U, QUOTIENTS), True), (("meet", SCAN_U, SCAN_U), False),
                (top([asc(0)], 1, 0, SCAN_U), False), (top([], 1, 0, QUOTIENTS), True), (top([(op("div", num(1), col(0)), False, False)], 1, 0, SCAN_U), True),
                (top([], 0, 0, FAILING), True), (("window", (), SCAN_U), False), (("window", (), QUOTIENTS), True),
                (("window", (("sum", op("div", num(1), col(0)), (), (), None),), SCAN_U), False),
                (("window", (("rank", None, (op("div", num(1), col(0)),), (), None),), SCAN_U), True),
                (("window", (("rank", None, (), ((op("div", num(1), col(0)), False, False),), None),), SCAN_U), True),
                (select([num(1)], FAILING), True), (where(("exists", FAILING), SCAN_T), True)]:
            kinds(plan, ALL)
            self.assertIs(fails(plan), wanted, plan)


class KeysTest(unittest.TestCase):
    def check(self, plan, *wanted):
        kinds(plan, ALL)
        told = facts(plan, ALL)[3]
        self.assertIs(type(told), list)
        for key in told:
            self.assertEqual(key, tuple(sorted(set(key))))
        self.assertLessEqual(set(wanted), set(told), plan)
        return set(told) - set(wanted)

    def test_scans_and_rows(self):
        self.assertEqual(self.check(SCAN_W, (0, 1), (1,)), set())
        self.assertEqual(self.check(SCAN_U), set())
        self.assertEqual(self.check(("rows", ("int",), ((1,), (1,)))), set())

    def test_groups_and_distinct(self):
        self.assertEqual(self.check(group(cols(0, 1), [("rows", False, None)], SCAN_U), (0, 1)), set())
        self.assertEqual(self.check(group([], [("rows", False, None)], SCAN_U), ()), set())
        self.check(group(cols(0), [], SCAN_U), (0,))
        self.assertEqual(self.check(("distinct", SCAN_U), (0, 1)), set())
        self.check(("distinct", SCAN_W), (0, 1, 2), (0, 1), (1,))

    def test_what_keeps_the_keys_of_its_input(self):
        for plan in (where(TRUE, SCAN_W), top([asc(0)], 2, 0, SCAN_W), ("window", (("rank", None, (), (), None),), SCAN_W)):
            self.assertEqual(self.check(plan, (0, 1), (1,)), set())
        self.assertEqual(self.check(("union", SCAN_W, SCAN_W)), set())
        for word in ("meet", "except"):
            self.check((word, SCAN_U, select(cols(0, 2), SCAN_V)))
            self.check((word, select(cols(0, 2), SCAN_V), SCAN_U), (0,), (0, 1))
            self.assertNotIn((0,), unlike((word, SCAN_U, select(cols(0, 2), SCAN_V))))

    def test_selects(self):
        self.assertEqual(self.check(select(cols(0), SCAN_W)), set())
        self.assertEqual(self.check(select(cols(1), SCAN_W), (0,)), set())
        self.assertEqual(self.check(select(cols(1, 0), SCAN_W), (0,), (0, 1)), set())
        self.assertEqual(self.check(select(cols(2, 1, 1, 0), SCAN_W), (1,), (1, 3)), set())
        self.assertEqual(self.check(select([op("neg", col(0))], SCAN_T)), set())
        self.assertEqual(self.check(select([num(1)], group([], [], SCAN_T)), ()), set())

    def test_inner_joins(self):
        self.assertEqual(self.check(join(SCAN_T, SCAN_W), (0, 3, 4), (0, 4)), set())
        self.assertEqual(self.check(join(SCAN_T, SCAN_U)), set())
        # The column of w is its key: each row of t has at most one partner.
        self.check(join(SCAN_T, SCAN_W, op("eq", col(1), col(4))), (0,), (0, 4))
        self.assertNotIn((4,), unlike(join(SCAN_T, SCAN_W, op("eq", col(1), col(4)))))
        self.check(join(SCAN_T, SCAN_W, op("eq", col(4), col(1))), (0,))
        self.check(join(SCAN_U, SCAN_T, op("eq", col(1), col(2))))
        self.check(join(SCAN_W, SCAN_U, op("eq", col(0), col(3))))
        self.assertEqual(unlike(join(SCAN_W, SCAN_U, op("eq", col(0), col(3)))), set())
        # The other way round: t's key is compared, so the keys of w stay.
        self.check(join(SCAN_T, SCAN_W, op("eq", col(0), col(3))), (4,), (3, 4))
        self.assertNotIn((0,), unlike(join(SCAN_T, SCAN_W, op("eq", col(0), col(3)))))

    def test_parts_of_conditions(self):
        pairs = op("and", op("and", op("eq", col(0), col(3)), op("isnull", col(2))), op("eq", col(4), col(1)))
        self.check(join(SCAN_T, SCAN_W, pairs), (0,), (4,))
        for cond in (op("or", op("eq", col(1), col(4)), TRUE), op("le", col(1), col(4)), op("same", col(1), col(4)), op("eq", col(3), col(5)),
                     op("eq", col(1), op("upper", col(4))), op("not", op("eq", col(1), col(4)))):
            self.assertNotIn((0,), unlike(join(SCAN_T, SCAN_W, cond)), cond)

    def test_keys_of_two_columns(self):
        plan = group(cols(0, 1), [], SCAN_U)
        both = op("and", op("eq", col(0), col(3)), op("eq", col(4), col(0)))
        self.check(join(SCAN_T, plan, both), (0,))
        self.assertNotIn((0,), unlike(join(SCAN_T, plan, op("eq", col(0), col(3)))))
        self.check(join(SCAN_T, plan, op("eq", col(0), col(3))), (0, 3, 4), (3, 4))

    def test_left_joins(self):
        plan = join(SCAN_T, SCAN_W, op("eq", col(1), col(4)), "left")
        self.check(plan, (0,), (0, 4), (0, 3, 4))
        plan = join(SCAN_T, SCAN_W, op("eq", col(0), col(3)), "left")
        self.check(plan, (0, 4))
        self.assertNotIn((4,), unlike(plan))
        self.assertNotIn((0,), unlike(plan))

    def test_joins_with_very_many_keys(self):
        """Of very many keys the rules go on with the least ones, in which no other one is; facts tells all."""
        tables = {schema[0]: schema for schema in ALL}
        conds = [TRUE, op("eq", col(1), col(4)), op("eq", col(0), col(3)), op("and", op("eq", col(0), col(3)), op("eq", col(1), col(4)))]
        for kind in ("inner", "left"):
            for cond in conds:
                for left, right in ((SCAN_V, SCAN_W), (SCAN_T, SCAN_W), (group(cols(0, 1, 2), [], join(SCAN_W, SCAN_V)), join(SCAN_W, SCAN_V))):
                    plan = join(left, right, cond, kind) if kinds(left, ALL)[:2] == ("int", "text") or cond is TRUE else join(left, right, TRUE, kind)
                    wanted = unlike(plan)
                    self.assertEqual(set(known(plan, tables).unique), wanted)
                    for most in (0, 1, 2):
                        with unittest.mock.patch("peristyle.facts.MOST_JOINED", most):
                            self.assertEqual(unlike(plan), wanted)
                            told = set(known(plan, tables).unique)
                        self.assertLessEqual(told, wanted)
                        for key in wanted:
                            self.assertTrue(any(set(other) <= set(key) for other in told), (plan, key, told))
        wide = {f"z{number}": (f"z{number}", (("a", "int", False), ("b", "int", False)), ((0,), (1,), (0, 1))) for number in range(12)}
        plan = ("scan", "z0")
        for number in range(1, 7):
            plan = join(plan, ("scan", f"z{number}"))
        self.assertEqual(len(facts(plan, tuple(wide.values()))[3]), 3 ** 7)
        for number in range(7, 12):
            plan = join(plan, ("scan", f"z{number}"))
        told = set(known(plan, wide).unique)
        self.assertLess(len(told), 3 ** 9)
        self.assertIn(tuple(range(0, 24, 2)), told)
        plan = join(plan[3], ("scan", "z11"), op("eq", col(0), col(22)))
        self.assertLess(len(known(plan, wide).unique), 3 ** 9)

    def test_other_joins(self):
        for kind in ("semi", "anti"):
            self.assertEqual(self.check(join(SCAN_W, SCAN_T, kind=kind), (0, 1), (1,)), set())
            self.assertEqual(self.check(join(SCAN_U, SCAN_T, op("eq", col(0), col(2)), kind)), set())
        for kind in ("right", "full"):
            told = unlike(join(SCAN_T, SCAN_W, op("eq", col(1), col(4)), kind))
            self.assertNotIn((0,), told)
            self.assertNotIn((4,), told)


class SafeTest(unittest.TestCase):
    def test_leaves(self):
        self.assertIs(safe(num(None), ()), True)
        self.assertIs(safe(col(1), (True, False)), True)
        self.assertIs(safe(col(0), (True, False)), False)
        self.assertIs(safe(col(0), [False]), True)

    def test_operators(self):
        for name, (wanted, _) in SIGNATURES.items():
            self.assertIs(safe(op(name, *[col(0)] * len(wanted)), (False,)), not may_fault(name))
            self.assertIs(safe(op(name, *[col(0)] * len(wanted)), (True,)), False)
            last = [col(0)] * (len(wanted) - 1) + [col(1)]
            self.assertIs(safe(op(name, *last), (False, True)), False)
        self.assertIs(safe(op("not", op("eq", op("add", num(1), num(1)), num(1))), ()), False)

    def test_case(self):
        self.assertIs(safe(("case", ((TRUE, num(1)),), col(0)), (False,)), True)
        for expr in (("case", ((col(1), num(1)),), num(1)), ("case", ((TRUE, col(1)),), num(1)), ("case", ((TRUE, num(1)),), col(1)),
                     ("case", ((TRUE, num(1)), (TRUE, op("div", num(1), num(1)))), num(1))):
            self.assertIs(safe(expr, (False, True)), False)

    def test_plans_and_outers(self):
        for expr in (outer(1, 0), ("exists", SCAN_U), ("scalar", group([], [("rows", False, None)], SCAN_U)), ("in", num(1), select(cols(0), SCAN_U)),
                     op("not", ("exists", SCAN_U)), ("case", ((("exists", SCAN_U), num(1)),), num(1)), op("isnull", outer(1, 0))):
            self.assertIs(safe(expr, (False, False, False)), False)


class HoldTest(unittest.TestCase):
    """No fact that is told is broken by an answer."""

    def check(self, plan, tables):
        told_nulls, told_faults, told_fails, told_keys = facts(plan, SCHEMAS)
        rows = bag(plan, [], tables)
        if is_fault(rows):
            self.assertTrue(told_fails, plan)
            return
        for row in rows:
            for value, null, fault in zip(row, told_nulls, told_faults, strict=True):
                self.assertTrue(null or value is not None, (plan, tables))
                self.assertTrue(fault or not is_fault(value), (plan, tables))
        for key in told_keys:
            seen = [tuple(row[index] for index in key) for row in rows]
            self.assertEqual(len(set(seen)), len(seen), (plan, tables, key))

    def test_plans_by_chance(self):
        rng = random.Random(7)
        chance = Chance(rng)
        for _ in range(2500):
            plan = chance.right_plan(rng.randrange(1, 5))
            for _ in range(3):
                self.check(plan, chance.tables(4))

    def test_answers_of_plans_by_chance(self):
        """answer, bag and value_of agree, and the order of a table's rows does not matter."""
        rng = random.Random(8)
        chance = Chance(rng)
        for _ in range(400):
            plan = chance.right_plan(rng.randrange(1, 4))
            tables = chance.tables(4)
            told = answer(plan, tables)
            turned = {name: (schema, rows[::-1]) for name, (schema, rows) in tables.items()}
            self.assertEqual(answer(plan, turned), told)
            rows = bag(plan, [], tables)
            if is_fault(rows):
                self.assertEqual(told, rows)
                self.assertEqual(value_of(("exists", plan), (), [], tables), rows)
                continue
            self.assertIs(value_of(("exists", plan), (), [], tables), bool(rows))
            found = [value for row in rows for value in row if is_fault(value)]
            self.assertEqual(told if found else sorted_rows(told), min(found) if found else sorted_rows(rows))

    def test_safe_expressions(self):
        """A safe expression is no fault for rows in which faults stand where they may."""
        rng = random.Random(9)
        chance = Chance(rng, SCHEMAS)
        row_kinds = ("int", "text", "bool", "int")
        for _ in range(3000):
            expr = chance.expr(chance.pick(VALUES), row_kinds, (), 3)
            if safe(expr, (False, False, False, True)):
                row = tuple(chance.value(kind) for kind in row_kinds[:3]) + (("fault", 1),)
                self.assertFalse(is_fault(value_of(expr, row, [], chance.tables(2))), expr)

    def test_operators_that_may_be_a_fault(self):
        """What is told of [1.6] and of nulls holds for each operator."""
        for name, (wanted, _) in SIGNATURES.items():
            values = [[None, *VALUES["int" if kind == "any" else kind]] for kind in wanted]
            plan_nulls = nulls(select([op(name, *[("const", "int" if kind == "any" else kind, VALUES["int" if kind == "any" else kind][0])
                                                 for kind in wanted])], ONE_ROW))
            for args in itertools.product(*values):
                told = worked(name, args)
                self.assertTrue(may_fault(name) or not is_fault(told))
                if None not in args:
                    self.assertTrue(plan_nulls[0] or told is not None)

    def test_what_is_told_is_new(self):
        first = facts(SCAN_W, SCHEMAS)
        first[3].append("more")
        self.assertEqual(facts(SCAN_W, SCHEMAS)[3], [(0, 1), (1,)])
        self.assertEqual(SCHEMAS[2][2], ((0, 1), (1,)))
        self.assertEqual([type(part) for part in first], [tuple, tuple, bool, list])


if __name__ == "__main__":
    unittest.main()
