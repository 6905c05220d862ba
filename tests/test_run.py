"""Running: answers whatever the settings are, and the counts ([10.1] to [10.3])."""

import random
import unittest

from peristyle.meaning import answer
from peristyle.run import run
from peristyle.runhost import Host
from peristyle.running import plan_of, simple
from peristyle.spool import Course
from peristyle.store import segment_rows, segmented
from peristyle.value import is_fault
from tests.chanceplans import Chance
from tests.plans import ONE_ROW, SCAN_T, SCAN_U, SCHEMAS, TRUE, asc, col, cols, group, join, num, op, outer, select, text, top, where
from tests.rulecases import FALSE, LOW, NULL, SHAKY, both, conj, distinct, eq, exists, fun, inn, neg, scalar, shaky, union, window
from tests.runs import check_run, in_segments, some_way, with_gone_rows

T, U, W = SCHEMAS
SCAN = ("scan", "t", None)
OTHER = ("scan", "u", None)
KINDS = ("inner", "left", "right", "full", "semi", "anti")
ENDS = [dict(budget=budget, batch=batch, workers=workers, turns=turns)
        for budget, batch in ((4, 1), (4, 1000), (100000, 1), (100000, 1000), (5, 3))
        for workers, turns in ((1, ()), (4, ()), (4, (7,)), (3, [5, -2, 10 ** 20, -10 ** 20, 1]))]
# Rows of which many are alike; d is often null.
MANY_T = [(number, ["x", "y", None][number % 3], [True, False, None][number % 3 - number % 2]) for number in range(30)]
MANY_U = [(number % 7, None if number % 5 == 0 else number % 3) for number in range(40)]
MANY_W = [(number % 4, "w" + str(number), None if number % 3 == 0 else number % 6) for number in range(25)]
TABLES = {"t": (T, MANY_T), "u": (U, MANY_U), "w": (W, MANY_W)}
EMPTY = {name: (schema, []) for name, (schema, _) in TABLES.items()}
ONE = {"t": (T, MANY_T[:1]), "u": (U, MANY_U[:1]), "w": (W, MANY_W[:1])}
AGGS = [(name, distinct, arg) for distinct in (False, True) for name, arg in (
    ("count", col(1)), ("sum", col(1)), ("avg", col(0)), ("min", col(1)), ("max", col(1)), ("every", LOW), ("some", op("isnull", col(1))))]
AGGS.append(("rows", False, None))
FAULTY = ("select", (op("div", num(6), col(0)), col(1)), OTHER)
FAILING = ("where", SHAKY, OTHER)


def by_keys(word, kind, lefts, rights, cond, left=OTHER, right=OTHER):
    return (word, kind, tuple(lefts), tuple(rights), cond, left, right)


def number_of_u(depth):
    """How often the first column of the row so far out stands in u."""
    return scalar(group((), (("rows", False, None),), where(eq(outer(depth, 0), col(0)), SCAN_U)))


RUNNINGS = [
    SCAN, ONE_ROW, ("rows", ("int", "text"), ((1, "x"), (None, None), (1, "x"))), ("rows", ("int",), ()),
    ("where", LOW, SCAN), ("where", SHAKY, SCAN), ("where", NULL, SCAN), ("scan", "t", LOW), ("scan", "t", SHAKY),
    ("select", cols(1, 1, 0), SCAN), ("select", (), SCAN), ("select", (op("div", num(6), col(0)),), OTHER),
    ("union", OTHER, OTHER), ("union", OTHER, FAULTY), ("union", FAILING, OTHER),
    ("distinct", OTHER), ("distinct", ("select", (col(1),), SCAN)), ("distinct", ("select", (), SCAN)), ("distinct", FAULTY), ("distinct", FAILING),
    ("except", OTHER, OTHER), ("except", OTHER, ("scan", "u", LOW)), ("except", ("union", OTHER, OTHER), OTHER), ("except", OTHER, FAULTY),
    ("except", FAULTY, OTHER), ("meet", OTHER, ("union", OTHER, OTHER)), ("meet", ("union", OTHER, OTHER), ("where", LOW, OTHER)), ("meet", FAILING, OTHER),
    ("meet", ("select", (col(1),), SCAN), ("select", (col(1),), ("scan", "w", None))), ("meet", FAULTY, FAULTY),
    ("top", (), 3, 5, OTHER), ("top", (), None, 0, OTHER), ("top", (asc(1),), None, 3, OTHER), ("top", ((col(1), True, True), asc(0)), 30, 0, OTHER),
    ("top", ((col(1), True, False), (col(2), True, True), (col(2), False, True)), None, 0, SCAN), ("top", (asc(0),), 0, 0, OTHER),
    ("top", (asc(0),), 2000, 2000, OTHER), ("top", ((op("div", num(6), col(0)), False, False),), 1, 0, OTHER), ("top", (asc(1),), 1, 0, FAULTY),
    ("select", (col(1), op("neg", col(0))), ("top", ((col(0), True, False),), 9, 1, OTHER)), ("top", (asc(0),), 0, 0, FAILING),
    ("window", (), OTHER), ("window", (fun("place", None, (), ((col(1), True, True),)), fun("rank", None, (col(1),), (asc(0),)), fun("dense", None, (col(0),))), OTHER),
    ("window", (fun("lag", col(0), (), (asc(1),)), fun("lead", op("div", num(6), col(0)), (col(1),))), OTHER),
    ("window", (fun("sum", col(0), (), (asc(1),)), fun("rows", None, (col(1),), (), (("before", 2), ("after", 1))), fun("min", col(1), (), (asc(0),), (("after", 1), ("end", 0)))), OTHER),
    ("window", (fun("count", col(1), (SHAKY,)),), OTHER), ("window", (fun("count", col(1), (), ((SHAKY, False, False),)),), OTHER), ("window", (), FAULTY),
    ("window", (fun("max", col(1), (col(1),)),), FAILING),
]
RUNNINGS += [(word, keys, aggs, below) for word in ("group", "sorted")
             for keys in ((), (col(0),), (col(1),), (col(1), op("isnull", col(0))), (op("abs", col(0)), col(1)))
             for aggs in ((), (AGGS[0], AGGS[-1]), tuple(AGGS)) for below in (OTHER, ("scan", "u", FALSE))]
RUNNINGS += [(word, keys, aggs, below) for word in ("group", "sorted") for keys, aggs, below in (
    ((op("div", num(6), col(0)),), (), OTHER), ((), (("sum", True, op("div", num(6), col(0))), ("min", False, col(1))), OTHER),
    ((col(1),), (("max", False, col(0)), ("count", True, col(0))), FAULTY), ((col(0),), (), FAULTY), ((), (), FAILING),
    ((col(1),), (("sum", False, op("mul", col(0), num(3 * 10 ** 17))), ("sum", True, op("mul", col(0), num(3 * 10 ** 17)))), OTHER))]
RUNNINGS += [("loop", kind, cond, left, right) for kind in KINDS for cond in (TRUE, FALSE, NULL, eq(col(1), col(2)), SHAKY)
             for left, right in ((OTHER, SCAN), (OTHER, ("scan", "u", FALSE)), (("scan", "u", FALSE), OTHER))]
RUNNINGS += [("loop", kind, eq(col(1), col(2)), left, right) for kind in KINDS for left, right in ((FAULTY, OTHER), (OTHER, FAILING), (FAILING, OTHER), (FAILING, FAILING))]
RUNNINGS += [by_keys(word, kind, *keys) for word in ("hash", "merge") for kind in KINDS for keys in (
    ((col(0),), (col(1),), eq(col(0), col(3))),
    ((col(1),), (col(1),), eq(col(3), col(1))),
    ((col(0), col(1)), (col(0), col(1)), conj(eq(col(0), col(2)), eq(col(1), col(3)))),
    ((col(1),), (col(1),), conj(conj(eq(col(1), col(3)), op("lt", col(0), col(2))), TRUE)),
    ((op("abs", col(1)), op("isnull", col(0))), (col(0), op("isnull", col(1))), conj(eq(op("abs", col(1)), col(2)), eq(op("isnull", col(3)), op("isnull", col(0))))),
    ((col(0),), (col(0),), eq(col(0), col(2)), ("scan", "u", FALSE), OTHER),
    ((col(0),), (col(0),), eq(col(0), col(2)), OTHER, ("scan", "u", FALSE)),
    ((col(1),), (col(1),), conj(eq(col(1), col(3)), FALSE)),
    ((col(1),), (col(1),), eq(col(1), col(3)), OTHER, FAILING),
    ((col(1),), (col(1),), eq(col(1), col(3)), FAULTY, FAULTY),
)]
# Plans in expressions at each place, with outers one and two queries out.
DEEP = exists(where(conj(eq(outer(1, 0), col(0)), op("lt", scalar(group((), (("rows", False, None),), where(eq(outer(2, 0), col(1)), SCAN_U))), num(4))), SCAN_U))
QUERIES = [
    ("where", op("lt", number_of_u(1), num(6)), SCAN), ("scan", "t", inn(col(0), select((col(1),), SCAN_U))), ("where", neg(inn(col(0), select((col(1),), SCAN_U))), SCAN),
    ("where", DEEP, SCAN), ("select", (number_of_u(1), DEEP, inn(num(None), select((col(1),), SCAN_U)), scalar(select((col(0),), SCAN_U))), SCAN),
    ("select", (scalar(top((), 1, 0, select((op("div", num(1), outer(1, 0)),), ONE_ROW))),), OTHER), ("select", (exists(where(shaky(0), SCAN_U)),), SCAN),
    ("select", (inn(op("div", num(6), col(0)), select((col(0),), SCAN_U)), inn(op("div", num(6), col(0)), where(FALSE, select((col(0),), SCAN_U)))), OTHER),
    ("select", (inn(col(0), select((op("div", num(6), col(0)),), SCAN_U)), inn(col(1), select((col(0),), where(op("le", col(0), outer(1, 0)), SCAN_U)))), OTHER),
    ("group", (number_of_u(1),), (("sum", True, number_of_u(1)), ("some", False, DEEP)), OTHER), ("sorted", (DEEP,), (("rows", False, None),), OTHER),
    ("loop", "full", eq(number_of_u(1), col(2)), SCAN, OTHER), ("loop", "semi", exists(where(conj(eq(outer(1, 0), col(0)), eq(outer(1, 3), col(1))), SCAN_U)), SCAN, OTHER),
    ("top", ((number_of_u(1), True, False),), 4, 1, OTHER),
    ("window", (fun("max", number_of_u(1), (DEEP,), ((scalar(group((), (("max", False, col(1)),), where(eq(outer(1, 0), col(0)), SCAN_U))), True, True),)),), OTHER),
    ("where", ("case", ((DEEP, TRUE), (inn(col(0), select((col(0),), SCAN_U)), FALSE)), NULL), OTHER),
    ("where", inn(col(0), select((col(0),), join(SCAN_U, SCAN_T, conj(eq(col(0), col(2)), eq(col(2), outer(1, 0)))))), OTHER),
    ("where", exists(join(SCAN_U, SCAN_T, eq(col(0), col(2)), "anti")), OTHER), ("where", exists(select((), distinct(window((fun("place"),), where(LOW, SCAN_U))))), SCAN),
]


class RunTest(unittest.TestCase):
    def test_each_word_by_each_setting(self):
        segments = [in_segments(TABLES, 0, 3), in_segments(TABLES, 4, 256)]
        for number, running in enumerate(RUNNINGS):
            for turn, settings in enumerate(ENDS):
                if (number + turn) % 5 == 0:
                    with self.subTest(running=running, settings=settings):
                        check_run(self, running, TABLES, segments[turn % 2], **settings)

    def test_without_settings(self):
        for tables in (TABLES, EMPTY, ONE):
            segments = in_segments(tables, 1, 2)
            for running in RUNNINGS:
                with self.subTest(running=running):
                    counts = check_run(self, running, tables, segments)
                    self.assertEqual(counts[4], 0)

    def test_empty_tables(self):
        segments = in_segments(EMPTY)
        for running in RUNNINGS + QUERIES:
            for settings in ENDS[:2]:
                with self.subTest(running=running):
                    counts = check_run(self, running, EMPTY, segments, **settings)
                    self.assertEqual((counts[0], counts[1]), (0, 0))

    def test_plans_in_expressions(self):
        for number, running in enumerate(QUERIES):
            for turn, settings in enumerate(ENDS):
                if (number + turn) % 3 == 0:
                    with self.subTest(running=running, settings=settings):
                        check_run(self, running, TABLES, in_segments(TABLES, 2, 7), **settings)

    def test_segments_of_all_sizes_and_packings(self):
        for size in (1, 2, 3, 256):
            for packing in range(5):
                segments = in_segments(TABLES, packing, size)
                for running in (SCAN, ("scan", "w", None), ("hash", "full", (col(0),), (col(0),), eq(col(0), col(3)), SCAN, OTHER), ("distinct", OTHER)):
                    for settings in (ENDS[0], ENDS[6], ENDS[15]):
                        check_run(self, running, TABLES, segments, **settings)

    def test_rows_that_are_gone(self):
        rng = random.Random(4)
        for _ in range(6):
            segments = with_gone_rows(rng, TABLES)
            for running in RUNNINGS[::5] + QUERIES[::3]:
                check_run(self, running, TABLES, segments, **rng.choice(ENDS))

    def test_by_chance(self):
        rng = random.Random(11)
        chance = Chance(rng)
        for _ in range(220):
            plan = chance.right_plan(rng.randrange(5))
            tables = chance.tables(rng.choice((0, 3, 9, 25)))
            for segments in (in_segments(tables, rng.randrange(5), rng.choice((1, 2, 3, 256))), with_gone_rows(rng, tables)):
                settings = dict(budget=rng.choice((4, 5, 8, 40, 100000)), batch=rng.choice((1, 2, 7, 1000)), workers=rng.randrange(1, 5),
                                turns=[rng.randrange(-9, 9) for _ in range(rng.randrange(4))])
                for running in (simple(plan), some_way(rng, plan, SCHEMAS)):
                    check_run(self, running, tables, segments, **settings)

    def test_the_least_fault_of_failing_inputs(self):
        cast = ("where", eq(op("number", text("x")), col(0)), OTHER)
        for running, wanted in ((("union", cast, FAILING), 1), (("where", SHAKY, cast), 2), (("distinct", cast), 2), (("loop", "inner", SHAKY, OTHER, cast), 2),
                                (("top", ((SHAKY, False, False),), 1, 0, cast), 2), (("group", (SHAKY,), (), cast), 2), (("meet", cast, FAULTY), 2), (("select", (SHAKY,), cast), 2),
                                (("window", (fun("place", None, (SHAKY,)),), cast), 2), (by_keys("hash", "left", (col(0),), (col(0),), eq(col(0), col(2)), cast, cast), 2)):
            for settings in ENDS[:6]:
                counts = check_run(self, running, TABLES, in_segments(TABLES, 0, 5), **settings)
                self.assertEqual(run(running, in_segments(TABLES), **settings)[0], ("fault", wanted))
                self.assertGreater(counts[0], 7)

    def test_the_order_of_a_top_stays(self):
        running = ("select", (col(0),), ("top", ((col(0), True, False),), None, 0, SCAN))
        for settings in ENDS:
            self.assertEqual(run(running, in_segments(TABLES, 0, 4), **settings)[0], [(number,) for number in reversed(range(30))])
        self.assertEqual(run(("where", TRUE, running), in_segments(TABLES, 0, 4))[0], [(number,) for number in range(30)])

    def test_settings_by_name_alone(self):
        with self.assertRaises(TypeError):
            run(SCAN, in_segments(TABLES), 4)

    def test_what_is_handed_in_stays(self):
        segments, turns = in_segments(TABLES, 0, 4), [3, 1, 2]
        copy = eval(repr(segments))
        for running in RUNNINGS[::7]:
            told = run(running, segments, workers=4, turns=turns, budget=4)
            self.assertEqual((segments, turns), (copy, [3, 1, 2]))
            if isinstance(told[0], list):
                told[0].clear()
            self.assertEqual(run(running, segments, workers=4, turns=turns, budget=4)[0], answer(plan_of(running), TABLES))


    def test_in_with_more_values_than_the_budget(self):
        worths = {"few": (1, 2), "many": tuple(range(20)), "null": tuple(range(20)) + (None,), "nulls": (None,) * 3, "none": (), "twice": (1, 1, 2) * 9}
        sides = [num(3), num(19), num(50), num(None), op("div", num(1), num(0)), op("number", text("x")), op("neg", num(-2))]
        for name, told in worths.items():
            rows = ("rows", ("int",), tuple((value,) for value in told))
            # 1 / 0 and a text that is no number, beside values.
            faulty = union(rows, select((op("div", num(1), num(0)),), ONE_ROW))
            both_faults = union(select((op("number", text("x")),), ONE_ROW), faulty)
            outer_rows = where(op("le", col(0), outer(1, 0)), rows)
            for side in sides:
                for plan in (rows, faulty, both_faults, where(op("isnull", op("div", num(1), num(0))), rows)):
                    for budget in (4, 1000):
                        with self.subTest(name=name, side=side, plan=plan, budget=budget):
                            check_run(self, ("select", (inn(side, plan),), ONE_ROW), EMPTY, in_segments(EMPTY), budget=budget)
            for budget in (4, 1000):
                check_run(self, ("select", (col(0), inn(col(0), rows), inn(col(1), outer_rows), inn(op("neg", col(1)), rows)), OTHER), TABLES, in_segments(TABLES), budget=budget)

    def test_groups_with_more_values_than_the_budget(self):
        rows = [(number % 3, number % 40 if number % 7 else None) for number in range(240)]
        tables = {"u": (U, rows)}
        for word in ("group", "sorted"):
            for keys in ((), (col(0),)):
                for budget in (4, 6, 50):
                    counts = check_run(self, (word, keys, tuple(AGGS), OTHER), tables, in_segments(tables, 0, 50), budget=budget)
                    self.assertGreater(counts[4], 0)

    def test_equal_rows_beyond_the_budget(self):
        left = [(number % 9, number % 2) for number in range(60)]
        right = [(number % 12, number % 2) for number in range(90)] + [(3, 1)] * 10
        tables = {"u": (U, left), "w": (("w", U[1], ()), right)}
        segments = in_segments(tables, 0, 16)
        for word in ("except", "meet"):
            for one, other in (("u", "w"), ("w", "u"), ("w", "w")):
                for budget in (4, 5, 9, 20):
                    running = (word, ("scan", one, None), ("scan", other, None))
                    check_run(self, running, tables, segments, budget=budget)
                    check_run(self, (word, running, ("union", running, ("scan", one, LOW))), tables, segments, budget=budget)

    def test_rows_that_are_equal_in_all_columns(self):
        tables = {"u": (U, [(number % 2, None) for number in range(20)])}
        funs = (fun("place", None, (), ((col(0), True, False),)), fun("place", None, (col(0),)), fun("place", None, (col(1),), (asc(0),)))
        for budget in (4, 1000):
            told = run(("window", funs, OTHER), in_segments(tables, 0, 3), budget=budget, workers=3, turns=(2, 0, 1))[0]
            self.assertEqual(told, answer(window(funs, SCAN_U), tables))
            # Whichever of them comes first, it does so for each function.
            self.assertEqual(sorted(row[2] for row in told), list(range(1, 21)))
            for row in told:
                self.assertEqual(row[3], row[2] if row[0] == 1 else row[2] - 10)
                self.assertEqual(row[4], row[2] + 10 if row[0] == 1 else row[2] - 10)


class SettingsTest(unittest.TestCase):
    def test_turns(self):
        for turns, workers, wanted in (((), 3, [0, 0, 0, 0]), ((5,), 3, [2, 2, 2, 2]), ((1, -1, 10 ** 20), 3, [1, 2, 10 ** 20 % 3, 1]), ([4, 3], 4, [0, 3, 0, 3]), ((7, 8), 1, [0, 0, 0, 0])):
            course = Course({}, 4, 1, workers, turns)
            self.assertEqual([course.next_worker() for _ in range(4)], wanted)

    def test_no_more_rows_than_a_batch_are_handed_on_at_once(self):
        class Watch:
            def __init__(self):
                self.sizes = []

            def receive(self, rows, number):
                self.sizes.append(len(rows))

        for running in (SCAN, ("where", TRUE, OTHER), ("select", (), OTHER), ("loop", "full", TRUE, SCAN, OTHER), ("top", (), None, 0, OTHER), ("distinct", OTHER), ("group", (col(0),), (), OTHER),
                        ("union", SCAN, SCAN), ("rows", ("int",), ((1,),) * 40), ("except", OTHER, ("scan", "u", FALSE)), ("window", (), OTHER), by_keys("hash", "left", (col(0),), (col(0),), eq(col(0), col(2)))):
            for batch in (1, 3, 64):
                watch = Watch()
                Host(Course(in_segments(TABLES), 4, batch, 1, ())).operator_of(running).go([], watch, 0)
                self.assertLessEqual(max(watch.sizes), batch)
                if batch == 1:
                    self.assertEqual(len(watch.sizes), len(answer(plan_of(running), TABLES)))


class CountsTest(unittest.TestCase):
    def test_segments_are_left_out_by_their_bounds(self):
        rows = [(number, None, None) for number in range(40)]
        segments = {"t": (T, segmented(T, rows, 0, 10))}
        for name, value, left_out in (("eq", 15, 3), ("eq", 40, 4), ("ne", 15, 0), ("lt", 10, 3), ("lt", 11, 2), ("le", 9, 3), ("le", 10, 2), ("gt", 29, 3), ("gt", 28, 2),
                                      ("ge", 30, 3), ("ge", 29, 2), ("lt", 0, 4), ("eq", None, 4), ("ge", None, 4)):
            with self.subTest(name=name, value=value):
                counts = check_run(self, ("scan", "t", op(name, col(0), num(value))), {"t": (T, rows)}, segments)
                self.assertEqual(counts[:2], (4 - left_out, left_out))
                self.assertEqual(check_run(self, ("where", op(name, col(0), num(value)), SCAN), {"t": (T, rows)}, segments)[:2], (4, 0))
        same = {"t": (T, segmented(T, [(number, "x", True) for number in range(40)], 0, 10))}
        self.assertEqual(run(("scan", "t", op("ne", col(1), text("x"))), same)[1][:2], (0, 4))
        self.assertEqual(run(("scan", "t", eq(col(1), text("y"))), segments)[1][:2], (0, 4))

    def test_conditions_that_may_be_faults_leave_nothing_out(self):
        rows = [(number, None, None) for number in range(40)]
        segments = {"t": (T, segmented(T, rows, 0, 10))}
        for cond in (conj(eq(col(0), num(50)), SHAKY), conj(SHAKY, eq(col(0), num(50))), exists(SCAN_T), neg(eq(col(0), num(50)))):
            counts = check_run(self, ("scan", "t", cond), {"t": (T, rows)}, segments)
            self.assertEqual(counts[1], 0)
            self.assertEqual(counts[0] % 4, 0)

    def test_conditions_of_other_shapes(self):
        rows = [(number, "n" + str(number), number % 2 == 0) for number in range(40)]
        tables = {"t": (T, rows)}
        segments = {"t": (T, segmented(T, rows, 0, 10))}
        for cond in (eq(num(3), col(0)), eq(op("neg", col(0)), num(-3)), eq(col(0), col(0)), eq(col(0), op("neg", num(-3))), op("lt", num(35), col(0)), op("lt", op("abs", col(0)), num(3)),
                     neg(op("lt", col(0), num(35))), op("like", col(1), text("n3?")), op("same", col(0), num(3)), both(col(2), eq(col(0), num(3))), col(2), op("isnull", col(0)),
                     op("ge", op("nullif", col(0), num(3)), num(30)), ("case", ((eq(col(0), num(3)), TRUE),), FALSE), op("eq", col(2), FALSE), op("ge", col(1), text("n38")), conj(col(2), eq(col(0), num(4))),
                     conj(conj(op("gt", col(0), num(12)), TRUE), op("lt", col(0), num(15))), both(op("lt", col(0), num(2)), op("gt", col(0), num(38))), conj(eq(num(4), col(0)), col(2)), TRUE, FALSE):
            with self.subTest(cond):
                check_run(self, ("scan", "t", cond), tables, segments)
                self.assertEqual(run(("scan", "t", cond), segments)[0], run(("where", cond, SCAN), segments)[0])

    def test_a_scan_runs_to_its_end(self):
        segments = in_segments(TABLES, 0, 4)
        many = {name: len(pair[1]) for name, pair in segments.items()}
        for kind in KINDS:
            for left, right in ((OTHER, ("where", FALSE, SCAN)), (("where", FALSE, OTHER), SCAN), (FAILING, SCAN), (OTHER, ("where", SHAKY, SCAN))):
                counts = run(("loop", kind, TRUE, left, right), segments)[1]
                self.assertEqual(counts[:2], (many["u"] + many["t"], 0))
        self.assertEqual(run(("top", (), 0, 0, OTHER), segments)[1][:2], (many["u"], 0))
        self.assertEqual(run(("where", exists(SCAN_U), ("scan", "t", eq(col(0), num(3)))), segments)[1][:2], (1 + many["u"], many["t"] - 1))

    def test_plans_in_expressions_are_counted(self):
        segments = in_segments(TABLES, 0, 4)
        counts = run(("where", exists(SCAN_U), ("scan", "t", FALSE)), segments)[1]
        self.assertEqual(counts[0] + counts[1], 8)
        counts = run(("where", exists(SCAN_U), SCAN), segments)[1]
        self.assertEqual((counts[0] + counts[1] - 8) % 10, 0)
        self.assertGreater(counts[0] + counts[1], 8)
        self.assertGreaterEqual(counts[2], 30 + 40)
        counts = run(("where", exists(where(eq(outer(1, 0), col(0)), SCAN_U)), SCAN), segments)[1]
        self.assertEqual((counts[0] + counts[1] - 8) % 10, 0)

    def test_the_spool_is_used_where_the_budget_ends(self):
        segments = in_segments(TABLES)
        for running in (("distinct", SCAN), ("group", (col(0),), (), SCAN), ("sorted", (col(0),), (), SCAN), ("top", (asc(0),), None, 0, SCAN), ("window", (fun("place", None, (col(0),)),), SCAN),
                        ("except", SCAN, SCAN), ("meet", SCAN, SCAN), ("loop", "inner", TRUE, SCAN, SCAN), by_keys("hash", "inner", (col(0),), (col(0),), eq(col(0), col(3)), SCAN, SCAN),
                        by_keys("merge", "inner", (col(0),), (col(0),), eq(col(0), col(3)), SCAN, SCAN)):
            with self.subTest(running):
                counts = check_run(self, running, TABLES, segments, budget=5)
                self.assertGreater(counts[4], 0)
                self.assertGreater(counts[3], 0)
                self.assertLessEqual(counts[3], 6)
                self.assertEqual(check_run(self, running, TABLES, segments, budget=60)[4], 0)
                counts = check_run(self, running, TABLES, segments, budget=100000)
                self.assertGreaterEqual(counts[3], 30)

    def test_a_window_holds_a_part(self):
        rows = [(number % 2, number) for number in range(40)]
        tables = {"u": (U, rows)}
        for partition, many in (((), 40), ((col(0),), 20), ((col(1),), 4)):
            counts = check_run(self, ("window", (fun("sum", col(1), partition, (asc(1),)),), OTHER), tables, in_segments(tables), budget=4)
            self.assertGreaterEqual(counts[3], many)
            self.assertLessEqual(counts[3], max(many, 4) + 1)
            self.assertGreater(counts[4], 0)

    def test_rows_that_are_handed_on(self):
        segments = in_segments(TABLES)
        self.assertIn(run(("where", LOW, SCAN), segments)[1][2], (30, 32))
        self.assertIn(run(("select", (), ("scan", "t", LOW)), segments)[1][2], (2, 4))
        self.assertIn(run(("union", ("rows", ("int", "int"), ((1, 2),)), OTHER), segments)[1][2], (41, 82))
        self.assertIn(run(("top", (), 3, 0, ("loop", "inner", TRUE, SCAN, OTHER)), segments)[1][2], (1270, 1273))

    def test_more_of_everything_than_the_budget(self):
        rows = [(number % 50, number % 11) for number in range(200)] + [(7, None)] * 30
        tables = {"u": (U, rows), "t": (T, [(number, None, None) for number in range(60)])}
        segments = in_segments(tables, 1, 16)
        for running in (("group", (col(0), col(1)), (("sum", True, col(1)), ("count", True, col(0))), OTHER), ("sorted", (col(1),), (("count", True, col(0)), ("rows", False, None)), OTHER),
                        ("group", (), (("count", True, col(0)), ("sum", True, col(1))), OTHER), ("distinct", OTHER), ("except", OTHER, ("distinct", OTHER)), ("meet", OTHER, ("union", OTHER, OTHER)),
                        by_keys("hash", "full", (col(1),), (col(1),), eq(col(1), col(3))), by_keys("merge", "full", (col(1),), (col(1),), eq(col(1), col(3))),
                        by_keys("hash", "anti", (col(0),), (col(1),), eq(col(0), col(3))), by_keys("merge", "left", (col(0),), (col(0),), conj(eq(col(0), col(2)), op("lt", col(1), col(3)))),
                        ("loop", "right", op("lt", col(0), col(2)), OTHER, OTHER), ("top", ((col(1), True, True),), 100, 20, OTHER)):
            with self.subTest(running):
                for budget in (4, 11, 229):
                    self.assertGreater(check_run(self, running, tables, segments, budget=budget, batch=9, workers=2, turns=(1, 1, 0))[4], -1)

    def test_the_workers_take_turns(self):
        segments = in_segments(TABLES, 0, 3)
        for workers in (1, 2, 3, 4):
            for turns in ((), (0,), (3,), (0, 1, 2, 3), (-1, 10 ** 30), list(range(50))):
                counts = check_run(self, ("top", (asc(0),), 3, 0, SCAN), TABLES, segments, workers=workers, turns=turns)
                self.assertEqual(counts[:2], (10, 0))

    def test_bound_of_rows_that_are_gone(self):
        columns, bounds, _ = segmented(T, [(1, None, None), (99, None, None)], 0, 256)[0]
        segments = {"t": (T, [(columns, bounds, (1,))])}
        self.assertEqual(segment_rows(T, segments["t"][1][0]), [(1, None, None)])
        self.assertEqual(run(("scan", "t", eq(col(0), num(99))), segments)[0], [])
        self.assertEqual(run(("scan", "t", eq(col(0), num(1))), segments)[0], [(1, None, None)])

    def test_faults_in_rows(self):
        self.assertTrue(is_fault(run(FAULTY, in_segments(TABLES))[0]))
        self.assertEqual(run(("select", (col(1),), FAULTY), in_segments(TABLES))[0], answer(select((col(1),), SCAN_U), TABLES))
        self.assertEqual(run(("group", (), (("rows", False, None),), FAULTY), in_segments(TABLES))[0], [(40,)])
        self.assertEqual(plan_of(FAULTY), select((op("div", num(6), col(0)), col(1)), SCAN_U))
        self.assertTrue(is_fault(answer(distinct(union(SCAN_U, plan_of(FAULTY))), TABLES)))
        self.assertEqual(len(answer(join(SCAN_U, top((), 1, 0, SCAN_T)), TABLES)), 40)
        self.assertEqual(len(answer(window((), SCAN_U), TABLES)), 40)


if __name__ == "__main__":
    unittest.main()
