"""What each plan and expression means ([6.1] to [6.9])."""

import copy
import itertools
import unittest

from peristyle.meaning import answer, bag, value_of
from peristyle.value import is_fault, sorted_rows
from tests.plans import ONE_ROW, TRUE, asc, col, cols, group, join, num, op, outer, plan_of, select, text, top, where

DIV, CAST, MANY, SIZE = [("fault", code) for code in (1, 2, 3, 4)]
N = ("n", (("a", "int", True), ("b", "int", True)), ())
M = ("m", (("k", "int", False), ("x", "text", True)), ((0,),))
EMPTY = ("none", (("a", "int", False),), ())
SCAN_N, SCAN_M, SCAN_NONE = ("scan", "n"), ("scan", "m"), ("scan", "none")
N_ROWS = [(1, 10), (1, 10), (2, None), (None, 5), (0, 7)]
M_ROWS = [(1, "x"), (2, None), (0, "7")]
TABLES = {"n": (N, N_ROWS), "m": (M, M_ROWS), "none": (EMPTY, [])}
# A fault where a is nought, one where x is no number, and conditions that are them.
BY_A = op("div", num(10), col(0))
FAULTY = op("eq", BY_A, num(10))
NUMBER = op("number", col(1))
TWO_FAULTS = op("and", op("eq", op("number", text("q")), num(1)), op("eq", op("div", num(1), num(0)), num(1)))
BIG = 10 ** 18 - 1


def rows(*told, kinds=("int", "int")):
    return ("rows", tuple(kinds), tuple(told))


def faults(*told):
    """A plan with a row for each number: 1 / 0 where it is nought, a number that is none where it is below."""
    return select([("case", ((op("lt", col(0), num(0)), op("number", text("q"))),), op("div", num(1), col(0))), col(0)],
                  rows(*[(number,) for number in told], kinds=("int",)))


class MeaningTest(unittest.TestCase):
    def check(self, plan, *wanted, tables=None):
        """Look at the bag of a plan."""
        told = bag(plan, [], TABLES if tables is None else tables)
        self.assertIsInstance(told, list, plan)
        for row in told:
            self.assertIs(type(row), tuple)
        self.assertEqual(sorted_rows(told), sorted_rows(wanted))
        self.assertEqual(repr(sorted_rows(told)), repr(sorted_rows(wanted)))

    def check_fails(self, plan, fault, tables=None):
        tables = TABLES if tables is None else tables
        self.assertEqual(bag(plan, [], tables), fault, plan)
        self.assertEqual(answer(plan, tables), fault, plan)

    def check_value(self, expr, value, row=(), outers=()):
        told = value_of(expr, row, list(outers), TABLES)
        self.assertEqual(told, value)
        self.assertIs(type(told), type(value))


class RowsTest(MeaningTest):
    def test_scan(self):
        self.check(SCAN_N, *N_ROWS)
        self.check(SCAN_NONE)
        self.check(SCAN_N, (1, 2), tables={"n": (N, [[1, 2]])})
        self.check(SCAN_N, (1, 2), tables={"n": (N, ((1, 2),))})

    def test_rows(self):
        self.check(rows((1, 2), (1, 2), (None, 3)), (1, 2), (1, 2), (None, 3))
        self.check(rows())
        self.check(ONE_ROW, ())

    def test_where(self):
        self.check(where(op("eq", col(0), num(1)), SCAN_N), (1, 10), (1, 10))
        self.check(where(op("gt", col(1), num(6)), SCAN_N), (1, 10), (1, 10), (0, 7))
        self.check(where(("const", "bool", None), SCAN_N))
        self.check(where(("const", "bool", False), SCAN_N))
        self.check(where(TRUE, SCAN_N), *N_ROWS)
        self.check(where(FAULTY, SCAN_NONE))
        self.check(where(FAULTY, where(op("eq", col(0), num(1)), SCAN_N)), (1, 10), (1, 10))
        self.check(where(FAULTY, where(op("eq", col(0), num(2)), SCAN_N)))
        self.check_fails(where(FAULTY, SCAN_N), DIV)
        self.check_fails(where(TWO_FAULTS, SCAN_N), DIV)
        self.check_fails(where(op("or", FAULTY, op("eq", NUMBER, num(1))), select([num(0), text("q")], ONE_ROW)), DIV)
        either = ("case", ((op("eq", col(0), num(2)), op("eq", NUMBER, num(3))),), FAULTY)
        self.check_fails(where(either, rows((2, "q"), (0, "1"), kinds=("int", "text"))), DIV)
        self.check_fails(where(either, rows((0, "q"), (2, "q"), kinds=("int", "text"))), DIV)
        self.check_fails(where(either, rows((1, "q"), (2, "q"), kinds=("int", "text"))), CAST)

    def test_select(self):
        self.check(select([op("add", col(0), col(1)), num(5)], SCAN_N), (11, 5), (11, 5), (None, 5), (None, 5), (7, 5))
        self.check(select([], SCAN_N), (), (), (), (), ())
        self.check(select([BY_A], SCAN_N), (10,), (10,), (5,), (None,), (DIV,))
        self.check(select([BY_A], SCAN_NONE))

    def test_failing_inputs(self):
        bad_div, bad_cast = where(FAULTY, SCAN_N), where(op("eq", op("number", text("q")), num(1)), SCAN_N)
        for first, second, told in ((bad_div, SCAN_N, DIV), (SCAN_N, bad_cast, CAST), (bad_cast, bad_div, DIV), (bad_div, bad_cast, DIV),
                                    (bad_cast, rows(), CAST)):
            for plan in (("union", first, second), ("except", first, second), ("meet", first, second), join(first, second),
                         join(first, second, kind="anti"), join(first, second, kind="full")):
                self.check_fails(plan, told)
        for plan in (select([num(1)], bad_cast), ("distinct", bad_cast), where(FAULTY, bad_cast), top([], 0, 0, bad_cast),
                     group([], [], bad_cast), ("window", (), bad_cast), where(("const", "bool", False), bad_cast)):
            self.check_fails(plan, CAST)


class JoinsTest(MeaningTest):
    LEFT = rows((1, 1), (1, 1), (2, 2), (None, 3))
    RIGHT = rows((1, 7), (1, 8), (4, 9), (None, 6))
    EQ = op("eq", col(0), col(2))

    def test_inner(self):
        partners = [(1, 1, 1, 7), (1, 1, 1, 7), (1, 1, 1, 8), (1, 1, 1, 8)]
        self.check(join(self.LEFT, self.RIGHT, self.EQ), *partners)
        self.check(join(self.LEFT, self.RIGHT), *[one + other for one in self.LEFT[2] for other in self.RIGHT[2]])
        self.check(join(self.LEFT, self.RIGHT, ("const", "bool", None)))
        self.check(join(self.LEFT, rows(), self.EQ))

    def test_outer(self):
        partners = [(1, 1, 1, 7), (1, 1, 1, 7), (1, 1, 1, 8), (1, 1, 1, 8)]
        lefts = [(2, 2, None, None), (None, 3, None, None)]
        rights = [(None, None, 4, 9), (None, None, None, 6)]
        self.check(join(self.LEFT, self.RIGHT, self.EQ, "left"), *partners, *lefts)
        self.check(join(self.LEFT, self.RIGHT, self.EQ, "right"), *partners, *rights)
        self.check(join(self.LEFT, self.RIGHT, self.EQ, "full"), *partners, *lefts, *rights)

    def test_semi_and_anti(self):
        self.check(join(self.LEFT, self.RIGHT, self.EQ, "semi"), (1, 1), (1, 1))
        self.check(join(self.LEFT, self.RIGHT, self.EQ, "anti"), (2, 2), (None, 3))
        self.check(join(self.LEFT, self.RIGHT, kind="semi"), *self.LEFT[2])
        self.check(join(self.LEFT, self.RIGHT, kind="anti"))

    def test_without_rows(self):
        nulls = (None, None)
        for kind, of_left, of_right in (("inner", [], []), ("left", [row + nulls for row in self.LEFT[2]], []),
                                        ("right", [], [nulls + row for row in self.RIGHT[2]]),
                                        ("full", [row + nulls for row in self.LEFT[2]], [nulls + row for row in self.RIGHT[2]]),
                                        ("semi", [], []), ("anti", list(self.LEFT[2]), [])):
            self.check(join(self.LEFT, rows(), self.EQ, kind), *of_left)
            self.check(join(rows(), self.RIGHT, self.EQ, kind), *of_right)
            self.check(join(rows(), rows(), self.EQ, kind))

    def test_nulls_are_as_many_as_the_columns(self):
        three = select(cols(0, 0, 0), SCAN_NONE)
        for other in (three, ("window", (("rows", None, (), (), None),) * 2, SCAN_NONE), group(cols(0, 0, 0), [], SCAN_NONE),
                      join(SCAN_NONE, rows()), join(three, SCAN_N, kind="semi"), where(TRUE, three), ("union", three, three),
                      ("distinct", three), top([], None, 0, three), rows(kinds=("int",) * 3)):
            self.check(join(rows((1, 2)), other, kind="left"), (1, 2, None, None, None))
            self.check(join(other, rows((1, 2)), kind="full"), (None, None, None, 1, 2))

    def test_faults_of_any_pair(self):
        cond = op("eq", op("div", num(1), op("sub", col(0), col(2))), num(1))
        for kind in ("inner", "left", "right", "full", "semi", "anti"):
            self.check_fails(join(self.LEFT, self.RIGHT, cond, kind), DIV)
            self.assertIsInstance(bag(join(rows((3, 3)), self.RIGHT, cond, kind), [], TABLES), list)
            self.assertIsInstance(bag(join(rows(), self.RIGHT, TWO_FAULTS, kind), [], TABLES), list)
            self.check_fails(join(self.LEFT, self.RIGHT, TWO_FAULTS, kind), DIV)
            # A partner found before does not hide a fault.
            some = op("or", op("eq", col(2), num(1)), op("eq", op("div", num(1), op("sub", col(2), num(4))), num(1)))
            self.check_fails(join(self.LEFT, self.RIGHT, some, kind), DIV)
        two = ("case", ((op("eq", col(3), num(7)), op("eq", op("number", text("q")), num(1))),), op("eq", op("div", num(1), num(0)), num(1)))
        self.check_fails(join(self.LEFT, self.RIGHT, two), DIV)
        self.check_fails(join(self.LEFT, rows((1, 7)), two), CAST)

    def test_faults_in_rows(self):
        self.check(join(faults(0, 1), rows((5, 5)), kind="left"), (DIV, 0, 5, 5), (1, 1, 5, 5))
        self.check(join(rows((5, 5)), faults(0), ("const", "bool", False), "full"), (5, 5, None, None), (None, None, DIV, 0))
        self.check(join(faults(0, 1), rows((1, 5)), op("eq", col(1), col(2)), "anti"), (DIV, 0))
        self.check_fails(join(faults(0, 1), rows((1, 5)), op("eq", col(0), col(2))), DIV)


class GroupsTest(MeaningTest):
    def test_keys(self):
        self.check(group(cols(0), [], SCAN_N), (1,), (2,), (None,), (0,))
        self.check(group([op("isnull", col(1)), col(0)], [], SCAN_N), (False, 1), (True, 2), (False, None), (False, 0))
        self.check(group(cols(0, 1), [("rows", False, None)], rows((None, 1), (None, 1), (1, None), (1, None), (None, None))),
                   (None, 1, 2), (1, None, 2), (None, None, 1))
        self.check(group(cols(0), [], SCAN_NONE))
        self.check(group(cols(0), [("rows", False, None), ("sum", False, col(0))], SCAN_NONE))

    def test_without_keys(self):
        self.check(group([], [], SCAN_N), ())
        self.check(group([], [], SCAN_NONE), ())
        self.check(group([], [("rows", False, None)], SCAN_N), (5,))
        aggs = [(name, False, col(0)) for name in ("count", "sum", "avg", "min", "max")]
        self.check(group([], [("rows", False, None), *aggs], SCAN_NONE), (0, 0, None, None, None, None))
        self.check(group([], [("every", False, TRUE), ("some", True, TRUE)], SCAN_NONE), (None, None))

    def test_faults_of_keys(self):
        self.check_fails(group([BY_A], [], SCAN_N), DIV)
        self.check_fails(group([col(0), op("number", text("q")), BY_A], [], SCAN_N), DIV)
        self.check_fails(group([op("number", text("q")), col(0)], [], SCAN_N), CAST)
        self.check(group([BY_A], [], SCAN_NONE))

    def agg(self, name, values, wanted, distinct=False, kind="int"):
        plan = group([], [(name, distinct, col(0))], rows(*[(value,) for value in values], kinds=(kind,)))
        self.check(plan, (wanted,))

    def test_each_agg(self):
        values = [3, None, -4, 3, None]
        for name, wanted, only in (("count", 3, 2), ("sum", 2, -1), ("avg", 0, -1), ("min", -4, -4), ("max", 3, 3)):
            self.agg(name, values, wanted)
            self.agg(name, values, only, True)
            self.agg(name, [None, None], 0 if name == "count" else None)
            self.agg(name, [], 0 if name == "count" else None, True)
            self.agg(name, [7], 1 if name == "count" else 7)
        for name, of_text, of_bool in (("count", 3, 2), ("min", "B", False), ("max", "b", True)):
            self.agg(name, ["b", None, "a", "B"], of_text, kind="text")
            self.agg(name, [True, None, False], of_bool, kind="bool")

    def test_every_and_some(self):
        for values, every, some in (([True, True], True, True), ([True, False], False, True), ([False], False, False), ([None], None, None),
                                    ([None, True], True, True), ([False, None], False, False)):
            for distinct in (False, True):
                self.agg("every", values, every, distinct, "bool")
                self.agg("some", values, some, distinct, "bool")

    def test_avg_rounds_down(self):
        self.agg("avg", [1, 2], 1)
        self.agg("avg", [-1, -2], -2)
        self.agg("avg", [1, 1, 2], 1)
        self.agg("avg", [1, 1, 2, 2], 1, True)
        self.agg("avg", [BIG, BIG, BIG], BIG)
        self.agg("avg", [-BIG, -BIG], -BIG)

    def test_sums_that_are_no_values(self):
        self.agg("sum", [BIG], BIG)
        self.agg("sum", [BIG, 1], SIZE)
        self.agg("sum", [-BIG, -1], SIZE)
        self.agg("sum", [BIG, 1, -1], BIG)
        self.agg("sum", [BIG, BIG], BIG, True)
        self.agg("sum", [BIG, BIG, -BIG, 5], SIZE)
        self.assertEqual(answer(group([], [("sum", False, col(0))], rows((BIG, 0), (1, 0))), TABLES), SIZE)

    def test_faults_of_args(self):
        for name in ("count", "sum", "avg", "min", "max"):
            for distinct in (False, True):
                self.check(group([], [(name, distinct, col(0))], faults(1, 0, -1)), (DIV,))
                self.check(group([], [(name, distinct, col(0))], faults(1, -1, -1)), (CAST,))
        self.check(group([], [("every", False, op("eq", col(0), num(1))), ("rows", False, None)], faults(1, 0)), (DIV, 2))
        self.check(group(cols(1), [("max", False, col(0))], faults(1, 0, -1)), (1, 1), (0, DIV), (-1, CAST))

    def test_rows_count_nulls(self):
        self.check(group(cols(0), [("rows", False, None), ("count", False, col(1)), ("count", True, col(1))], SCAN_N),
                   (1, 2, 2, 1), (2, 1, 0, 0), (None, 1, 1, 1), (0, 1, 1, 1))


class SetsTest(MeaningTest):
    LEFT = rows((1, 1), (1, 1), (1, 1), (2, None), (2, None), (None, 3))
    RIGHT = rows((1, 1), (2, None), (2, None), (2, None), (4, 4))

    def test_distinct(self):
        self.check(("distinct", self.LEFT), (1, 1), (2, None), (None, 3))
        self.check(("distinct", rows()))
        self.check(("distinct", select([], SCAN_N)), ())

    def test_union(self):
        self.check(("union", self.LEFT, self.RIGHT), *self.LEFT[2], *self.RIGHT[2])
        self.check(("union", self.LEFT, rows()), *self.LEFT[2])

    def test_except(self):
        self.check(("except", self.LEFT, self.RIGHT), (1, 1), (1, 1), (None, 3))
        self.check(("except", self.RIGHT, self.LEFT), (2, None), (4, 4))
        self.check(("except", self.LEFT, self.LEFT))
        self.check(("except", self.LEFT, rows()), *self.LEFT[2])

    def test_meet(self):
        self.check(("meet", self.LEFT, self.RIGHT), (1, 1), (2, None), (2, None))
        self.check(("meet", self.RIGHT, self.LEFT), (1, 1), (2, None), (2, None))
        self.check(("meet", self.LEFT, rows()))

    def test_faults(self):
        for word in ("except", "meet"):
            self.check_fails((word, faults(-1, 0), self.LEFT), DIV)
            self.check_fails((word, self.LEFT, faults(-1, 1)), CAST)
            self.check_fails((word, faults(-1), faults(0)), DIV)
        self.check_fails(("distinct", faults(1, -1, 0)), DIV)
        self.check(("union", faults(0), faults(-1)), (DIV, 0), (CAST, -1))


class WindowsTest(MeaningTest):
    # A part, what is ordered, and a number.
    ROWS = rows((1, 1, 10), (1, 2, 20), (1, 2, 21), (1, None, 30), (2, 5, 40), kinds=("int",) * 3)

    def column(self, fun, plan=None):
        """What a function tells for each row, by the order of rows."""
        told = bag(("window", (fun,), self.ROWS if plan is None else plan), [], TABLES)
        return [row[-1] for row in sorted_rows(told)]

    def test_numbers(self):
        order = (asc(1),)
        self.assertEqual(self.column(("place", None, cols(0), order, None)), [1, 2, 3, 4, 1])
        self.assertEqual(self.column(("rank", None, cols(0), order, None)), [1, 2, 2, 4, 1])
        self.assertEqual(self.column(("dense", None, cols(0), order, None)), [1, 2, 2, 3, 1])
        self.assertEqual(self.column(("place", None, (), order, None)), [1, 2, 3, 5, 4])
        self.assertEqual(self.column(("rank", None, (), order, None)), [1, 2, 2, 5, 4])
        self.assertEqual(self.column(("dense", None, (), order, None)), [1, 2, 2, 4, 3])

    def test_without_order(self):
        self.assertEqual(self.column(("place", None, cols(0), (), None)), [1, 2, 3, 4, 1])
        self.assertEqual(self.column(("rank", None, (), (), None)), [1, 1, 1, 1, 1])
        self.assertEqual(self.column(("dense", None, cols(0), (), None)), [1, 1, 1, 1, 1])
        self.assertEqual(self.column(("sum", col(2), cols(0), (), None)), [81, 81, 81, 81, 40])
        self.assertEqual(self.column(("lag", col(2), (), (), None)), [None, 10, 20, 21, 30])

    def test_orders(self):
        self.assertEqual(self.column(("place", None, (), ((col(1), True, False),), None)), [4, 2, 3, 5, 1])
        self.assertEqual(self.column(("place", None, (), ((col(1), True, True),), None)), [5, 3, 4, 1, 2])
        self.assertEqual(self.column(("place", None, (), ((col(1), False, True),), None)), [2, 3, 4, 1, 5])
        self.assertEqual(self.column(("place", None, (), (asc(1), (col(2), True, False)), None)), [1, 3, 2, 5, 4])
        self.assertEqual(self.column(("rank", None, (), ((op("isnull", col(1)), True, False), asc(0)), None)), [2, 2, 2, 1, 5])

    def test_neighbours(self):
        order = (asc(1),)
        self.assertEqual(self.column(("lag", col(2), cols(0), order, None)), [None, 10, 20, 21, None])
        self.assertEqual(self.column(("lead", col(2), cols(0), order, None)), [20, 21, 30, None, None])
        self.assertEqual(self.column(("lead", col(1), (), order, None)), [2, 2, 5, None, None])
        # A fault may stand there, too.
        plan = rows((0, 1), (1, 2))
        self.check(("window", (("lead", BY_A, (), ((col(1), True, True),), None),), plan), (0, 1, None), (1, 2, DIV))
        self.check(("window", (("lag", BY_A, (), (asc(1),), None),), plan), (0, 1, None), (1, 2, DIV))

    def test_aggs_up_to_the_last_peer(self):
        order = (asc(1),)
        self.assertEqual(self.column(("sum", col(2), cols(0), order, None)), [10, 51, 51, 81, 40])
        self.assertEqual(self.column(("rows", None, cols(0), order, None)), [1, 3, 3, 4, 1])
        self.assertEqual(self.column(("count", col(1), cols(0), order, None)), [1, 3, 3, 3, 1])
        self.assertEqual(self.column(("min", col(2), (), order, None)), [10] * 5)
        self.assertEqual(self.column(("max", col(2), (), order, None)), [10, 21, 21, 40, 40])
        self.assertEqual(self.column(("avg", col(2), (), order, None)), [10, 17, 17, 24, 22])
        self.assertEqual(self.column(("every", op("lt", col(2), num(30)), (), order, None)), [True, True, True, False, False])
        self.assertEqual(self.column(("some", op("gt", col(2), num(20)), (), order, None)), [False, True, True, True, True])
        self.assertEqual(self.column(("sum", op("nullif", col(2), num(10)), cols(0), order, None)), [None, 41, 41, 71, 40])

    def test_frames(self):
        """Each two edges, also the wrong way round, against the places written out."""
        many = 5
        plan = rows(*[(place, 10 ** place) for place in range(many)])
        edges = [("start", 0), ("before", 7), ("before", 2), ("before", 0), ("here", 0), ("after", 0), ("after", 1), ("after", 9), ("end", 0)]

        def place_of(edge, here):
            return {"start": 0, "end": many - 1, "here": here, "before": here - edge[1], "after": here + edge[1]}[edge[0]]

        for first, second in itertools.product(edges, edges):
            told = self.column(("sum", col(1), (), (asc(0),), (first, second)), plan)
            counts = self.column(("rows", None, (), (asc(0),), (first, second)), plan)
            for here in range(many):
                inside = [place for place in range(many) if place_of(first, here) <= place <= place_of(second, here)]
                self.assertEqual(told[here], sum(10 ** place for place in inside) if inside else None, (first, second, here))
                self.assertEqual(counts[here], len(inside))

    def test_frames_go_by_places_not_peers(self):
        frame = (("start", 0), ("here", 0))
        self.assertEqual(self.column(("sum", col(2), cols(0), (asc(1),), frame)), [10, 30, 51, 81, 40])
        self.assertEqual(self.column(("rows", None, cols(0), (), frame)), [1, 2, 3, 4, 1])

    def test_rows_that_are_equal_stand_in_one_order(self):
        plan = rows((1, 5), (1, 5), (1, 5), (0, 9))
        funs = (("place", None, (), (asc(0),), None), ("place", None, (), ((col(0), True, True),), None), ("place", None, cols(1), (), None),
                ("lag", col(1), (), (asc(1),), None))
        self.check(("window", funs, plan), (0, 9, 1, 4, 1, 5), (1, 5, 2, 1, 1, None), (1, 5, 3, 2, 2, 5), (1, 5, 4, 3, 3, 5))

    def test_parts(self):
        plan = rows((None, 1), (None, 2), (0, 3), (1, 4))
        self.assertEqual(self.column(("rows", None, cols(0), (), None), plan), [1, 1, 2, 2])
        self.assertEqual(self.column(("rows", None, (op("isnull", col(0)), col(0)), (), None), plan), [1, 1, 2, 2])
        self.assertEqual(self.column(("sum", col(1), (num(1),), (), None), plan), [10] * 4)

    def test_all_funs_are_of_the_inputs_rows(self):
        funs = (("rank", None, (), (asc(0),), None), ("max", col(1), (), (), None))
        self.check(("window", funs, rows((1, 2), (3, 1))), (1, 2, 1, 2), (3, 1, 2, 2))
        self.check(("window", (), rows((1, 2))), (1, 2))
        self.check(("window", funs, rows()))

    def test_faults(self):
        plan = rows((1, 1), (0, 2))
        self.check_fails(("window", (("rows", None, (BY_A,), (), None),), plan), DIV)
        self.check_fails(("window", (("rank", None, (), ((BY_A, False, False),), None),), plan), DIV)
        self.check_fails(("window", (("rank", None, (op("number", text("q")),), (), None), ("rank", None, (BY_A,), (), None)), plan), DIV)
        self.check_fails(("window", (("rank", None, (op("number", text("q")),), ((BY_A, True, True),), None),), plan), DIV)
        self.check_fails(("window", (), faults(-1, 1)), CAST)
        self.check_fails(("window", (("rank", None, (op("div", col(1), num(0)),), (), None),), faults(-1, 1)), DIV)
        self.check(("window", (("sum", BY_A, (), (), None),), plan), (1, 1, DIV), (0, 2, DIV))
        self.check(("window", (("count", BY_A, (), ((col(1), False, False),), None),), plan), (1, 1, 1), (0, 2, DIV))
        self.check(("window", (("sum", col(0), (), (), None),), rows((BIG, 1), (1, 1))), (BIG, 1, SIZE), (1, 1, SIZE))
        self.check(("window", (("rank", None, (BY_A,), (), None),), rows()))


class TopTest(MeaningTest):
    ROWS = rows((2, 1), (None, 2), (1, 3), (2, 0), (None, 1))

    def check_order(self, order, wanted, limit=None, offset=0, plan=None):
        """Look at the rows in their order."""
        self.assertEqual(answer(top(order, limit, offset, self.ROWS if plan is None else plan), TABLES), wanted)

    def test_orders(self):
        one, two, three, nulls = (1, 3), (2, 0), (2, 1), [(None, 1), (None, 2)]
        self.check_order([(col(0), False, False)], [one, two, three, *nulls])
        self.check_order([(col(0), False, True)], [*nulls, one, two, three])
        self.check_order([(col(0), True, True)], [*nulls, two, three, one])
        self.check_order([(col(0), True, False)], [two, three, one, *nulls])
        self.check_order([], [one, two, three, *nulls])
        self.check_order([(num(1), True, True)], [one, two, three, *nulls])

    def test_several_items(self):
        self.check_order([asc(0), (col(1), True, False)], [(1, 3), (2, 1), (2, 0), (None, 2), (None, 1)])
        self.check_order([(op("isnull", col(0)), True, False), asc(1)], [(None, 1), (None, 2), (2, 0), (2, 1), (1, 3)])

    def test_kinds(self):
        plan = rows(("b", True), ("B", False), (None, None), ("a", True), kinds=("text", "bool"))
        self.check_order([(col(0), True, False)], [("b", True), ("a", True), ("B", False), (None, None)], plan=plan)
        self.check_order([(col(1), False, True), (col(0), True, True)], [(None, None), ("B", False), ("b", True), ("a", True)], plan=plan)
        self.check_order([(col(1), True, True)], [(None, None), ("a", True), ("b", True), ("B", False)], plan=plan)

    def test_limits(self):
        ordered = [(1, 3), (2, 0), (2, 1), (None, 1), (None, 2)]
        for limit in (None, 0, 1, 3, 5, 6, 2000):
            for offset in (0, 1, 4, 5, 6, 10 ** 20):
                wanted = ordered[offset:] if limit is None else ordered[offset:offset + limit]
                self.check_order([], wanted, limit, offset)
        self.check(top([asc(0)], 2, 1, self.ROWS), (2, 0), (2, 1))

    def test_equal_rows(self):
        self.check_order([asc(0)], [(1, 1), (1, 1)], 2, 0, rows((1, 2), (1, 1), (1, 1)))

    def test_faults(self):
        self.check_fails(top([], None, 0, faults(1, -1, 0)), DIV)
        self.check_fails(top([], 0, 0, faults(1, -1)), CAST)
        self.check_fails(top([(BY_A, False, False)], 1, 0, rows((1, 1), (0, 2))), DIV)
        self.check_fails(top([asc(0), (op("number", text("q")), False, False)], 0, 0, rows((1, 1))), CAST)
        self.check_fails(top([(op("number", text("q")), False, False), (BY_A, False, False)], 0, 0, rows((0, 1))), DIV)
        self.check_fails(top([(op("div", col(1), num(0)), False, False)], 0, 0, faults(-1)), DIV)
        self.check(top([(BY_A, False, False)], None, 0, rows()))


class AnswerTest(MeaningTest):
    def test_plans_without_an_order(self):
        self.assertEqual(answer(SCAN_N, TABLES), [(0, 7), (1, 10), (1, 10), (2, None), (None, 5)])
        self.assertEqual(answer(SCAN_NONE, TABLES), [])
        self.assertEqual(answer(rows(("b",), (None,), ("a",), ("B",), kinds=("text",)), {}), [("B",), ("a",), ("b",), (None,)])
        self.assertEqual(answer(rows((True,), (False,), kinds=("bool",)), {}), [(False,), (True,)])

    def test_plans_with_an_order(self):
        ordered = top([(col(0), True, False)], None, 0, rows((1, 5), (2, 4), (3, 6)))
        self.assertEqual(answer(ordered, {}), [(3, 6), (2, 4), (1, 5)])
        self.assertEqual(answer(select(cols(1), ordered), {}), [(6,), (4,), (5,)])
        self.assertEqual(answer(select([num(1), col(0)], select(cols(1), ordered)), {}), [(1, 6), (1, 4), (1, 5)])

    def test_what_loses_the_order(self):
        ordered = top([(col(0), True, False)], None, 0, rows((1, 5), (2, 4), (3, 6)))
        least = [(1, 5), (2, 4), (3, 6)]
        for plan in (where(TRUE, ordered), ("distinct", ordered), ("union", ordered, rows()), join(ordered, ONE_ROW), ("window", (), ordered),
                     join(ordered, ONE_ROW, kind="semi"), ("except", ordered, rows()), select(cols(0, 1), where(TRUE, ordered)),
                     group(cols(0, 1), [], ordered), ("meet", ordered, ordered)):
            self.assertEqual(answer(plan, {}), least)

    def test_faults(self):
        self.assertEqual(answer(faults(1, -1, 0), {}), DIV)
        self.assertEqual(answer(faults(1, -1), {}), CAST)
        self.assertEqual(answer(select(cols(1), faults(1, -1)), {}), [(-1,), (1,)])
        self.assertEqual(answer(select([BY_A], top([asc(0)], None, 0, SCAN_N)), TABLES), DIV)
        self.assertEqual(answer(select([BY_A], top([asc(0)], 1, 1, SCAN_N)), TABLES), [(10,)])
        # What fails goes before what stands in a row, even if it is greater.
        self.assertEqual(answer(("union", faults(0), where(op("eq", op("number", text("q")), num(1)), rows((1, 1)))), {}), CAST)
        self.assertEqual(answer(where(op("isnull", col(0)), faults(0, 1)), {}), DIV)
        self.assertEqual(answer(where(op("gt", col(1), num(0)), faults(0, 1)), {}), [(1, 1)])

    def test_agree(self):
        for plan in (SCAN_N, where(op("gt", col(1), num(6)), SCAN_N), select([BY_A, col(0)], SCAN_N), where(FAULTY, SCAN_N),
                     group(cols(0), [("sum", False, BY_A)], SCAN_N), top([asc(1)], 2, 0, SCAN_N), join(SCAN_N, SCAN_M, op("eq", col(0), col(2)))):
            told, wanted = bag(plan, [], TABLES), answer(plan, TABLES)
            if is_fault(told):
                self.assertEqual(wanted, told)
                continue
            found = [value for row in told for value in row if is_fault(value)]
            self.assertEqual(wanted, min(found) if found else wanted)
            if not found:
                self.assertEqual(sorted_rows(wanted), sorted_rows(told))
            self.assertIs(value_of(("exists", plan), (), [], TABLES), len(told) > 0)
            if len(told) == 1 or not told:
                self.assertEqual(value_of(("scalar", select(cols(0), plan)), (), [], TABLES), told[0][0] if told else None)


class ExpressionsTest(MeaningTest):
    def test_leaves(self):
        self.check_value(col(1), 6, (5, 6))
        self.check_value(col(0), DIV, (DIV,))
        self.check_value(num(None), None)
        self.check_value(text("x"), "x")
        self.check_value(outer(1, 0), 7, (1,), [(7,), (8, 9)])
        self.check_value(outer(2, 1), 9, (1,), [(7,), (8, 9)])

    def test_operators(self):
        self.check_value(op("add", col(0), num(2)), 7, (5,))
        self.check_value(op("div", num(1), num(0)), DIV)
        self.check_value(op("and", ("const", "bool", False), op("eq", op("div", num(1), num(0)), num(1))), False)
        self.check_value(op("coalesce", col(0), col(1)), 3, (None, 3))
        self.check_value(op("isnull", op("div", num(1), num(0))), DIV)

    def test_case(self):
        fault, cast = op("eq", op("div", num(1), num(0)), num(1)), op("number", text("q"))
        false, null = ("const", "bool", False), ("const", "bool", None)
        self.check_value(("case", ((TRUE, num(1)), (TRUE, num(2))), num(3)), 1)
        self.check_value(("case", ((false, num(1)), (TRUE, num(2))), num(3)), 2)
        self.check_value(("case", ((false, num(1)), (null, num(2))), num(3)), 3)
        self.check_value(("case", ((false, cast), (TRUE, num(2)), (fault, cast)), cast), 2)
        self.check_value(("case", ((TRUE, num(1)), (fault, num(2))), num(3)), 1)
        self.check_value(("case", ((false, num(1)), (fault, num(2)), (TRUE, num(2))), num(3)), DIV)
        self.check_value(("case", ((fault, num(1)), (op("eq", cast, num(1)), num(2))), num(3)), DIV)
        self.check_value(("case", ((op("eq", cast, num(1)), num(1)), (fault, num(2))), num(3)), CAST)
        self.check_value(("case", ((TRUE, cast),), num(3)), CAST)
        self.check_value(("case", ((null, num(1)),), cast), CAST)
        self.check_value(("case", ((false, num(1)),), num(None)), None)

    def test_scalar(self):
        self.check_value(("scalar", rows((4,), kinds=("int",))), 4)
        self.check_value(("scalar", rows((None,), kinds=("int",))), None)
        self.check_value(("scalar", rows(kinds=("int",))), None)
        self.check_value(("scalar", rows((4,), (4,), kinds=("int",))), MANY)
        self.check_value(("scalar", rows((None,), (None,), kinds=("int",))), MANY)
        self.check_value(("scalar", select(cols(0), faults(0))), DIV)
        self.check_value(("scalar", select(cols(0), faults(0, 0))), MANY)
        self.check_value(("scalar", select(cols(0), where(FAULTY, SCAN_N))), DIV)

    def test_exists(self):
        self.check_value(("exists", rows((4,), kinds=("int",))), True)
        self.check_value(("exists", rows(kinds=("int",))), False)
        self.check_value(("exists", faults(0)), True)
        self.check_value(("exists", select([], SCAN_N)), True)
        self.check_value(("exists", where(FAULTY, SCAN_N)), DIV)
        self.check_value(("exists", ("distinct", faults(-1))), CAST)

    def test_in(self):
        def told(value, *values, kind="int"):
            return ("in", ("const", kind, value), rows(*[(each,) for each in values], kinds=(kind,)))

        self.check_value(told(1, 2, 1), True)
        self.check_value(told(1, 1, 1, None), True)
        self.check_value(told(1, 2, 3), False)
        self.check_value(told(1, 2, None), None)
        self.check_value(told(1), False)
        self.check_value(told(None), False)
        self.check_value(told(None, 1), None)
        self.check_value(told(None, None), None)
        self.check_value(told("x", "y", "x", kind="text"), True)
        by_nought = op("div", num(1), num(0))
        self.check_value(("in", by_nought, rows(kinds=("int",))), False)
        self.check_value(("in", by_nought, rows((1,), kinds=("int",))), DIV)
        self.check_value(("in", by_nought, rows((1,), (None,), kinds=("int",))), None)
        self.check_value(("in", num(1), select(cols(0), faults(0, 2, -1))), DIV)
        self.check_value(("in", num(1), select(cols(0), faults(0, 1))), True)
        self.check_value(("in", num(None), select(cols(0), faults(0, 1))), None)
        self.check_value(("in", op("number", text("q")), select(cols(0), faults(0))), DIV)
        self.check_value(("in", num(1), select(cols(0), where(FAULTY, SCAN_N))), DIV)
        self.check_value(("in", by_nought, select(cols(0), where(op("eq", op("number", text("q")), num(1)), SCAN_N))), CAST)

    def test_outers_one_and_two_queries_out(self):
        inner = where(op("eq", col(0), outer(1, 0)), SCAN_M)
        self.check(where(("exists", inner), SCAN_N), (1, 10), (1, 10), (2, None), (0, 7))
        self.check(where(op("not", ("exists", inner)), SCAN_N), (None, 5))
        self.check(select([col(0), ("scalar", select(cols(1), inner))], SCAN_N), (1, "x"), (1, "x"), (2, None), (None, None), (0, "7"))
        deep = where(("exists", where(op("eq", outer(1, 0), outer(2, 0)), ONE_ROW)), SCAN_M)
        self.check(where(("exists", deep), SCAN_N), (1, 10), (1, 10), (2, None), (0, 7))
        deep = ("scalar", select([op("add", outer(2, 0), outer(1, 0))], ONE_ROW))
        self.check(select([col(0), ("in", num(3), select([deep], SCAN_M))], SCAN_N), (1, True), (1, True), (2, True), (None, None), (0, False))
        self.check_value(("scalar", select([outer(1, 0), ], ONE_ROW)), 5, (5,), [(6,)])
        self.check_value(("scalar", select([outer(2, 0), ], ONE_ROW)), 6, (5,), [(6,)])

    def test_plans_at_each_place(self):
        many = ("scalar", select(cols(0), where(op("le", col(0), outer(1, 0)), SCAN_M)))
        one = ("scalar", group([], [("max", False, col(0))], where(op("le", col(0), outer(1, 0)), SCAN_M)))
        self.check(select([many], SCAN_N), (MANY,), (MANY,), (MANY,), (None,), (0,))
        self.check(group([one], [("rows", False, None)], SCAN_N), (1, 2), (2, 1), (None, 1), (0, 1))
        self.check(group([], [("sum", False, one)], SCAN_N), (4,))
        self.check_fails(group([many], [], SCAN_N), MANY)
        self.assertEqual(answer(top([(one, True, False), asc(1)], 3, 0, SCAN_N), TABLES), [(2, None), (1, 10), (1, 10)])
        self.check(("window", (("rows", None, (one,), (), None), ("sum", one, (), ((one, False, False),), None)), SCAN_N),
                   (1, 10, 2, 2), (1, 10, 2, 2), (2, None, 1, 4), (None, 5, 1, 4), (0, 7, 1, 0))
        cond = ("exists", where(op("and", op("eq", col(0), outer(1, 0)), op("eq", outer(1, 2), num(2))), SCAN_M))
        self.check(join(SCAN_N, SCAN_M, cond, "semi"), (1, 10), (1, 10), (2, None), (0, 7))
        self.check_fails(where(op("eq", many, num(1)), SCAN_N), MANY)

    def test_bags_with_outers(self):
        plan = where(op("eq", col(0), outer(2, 1)), SCAN_M)
        self.assertEqual(bag(plan, [(9,), (8, 2)], TABLES), [(2, None)])
        plan = select([outer(1, 0), outer(2, 1)], SCAN_NONE)
        self.assertEqual(bag(plan, [(9,), (8, 2)], TABLES), [])
        self.assertEqual(bag(join(ONE_ROW, select([outer(1, 0)], ONE_ROW)), [(9,)], TABLES), [(9,)])


class StaysTest(MeaningTest):
    def test_what_is_handed_in_stays(self):
        tables = copy.deepcopy(TABLES)
        outers = [(1, 2)]
        for plan in (SCAN_N, top([asc(0)], 1, 0, SCAN_N), ("union", SCAN_N, SCAN_N), ("except", SCAN_N, SCAN_N), rows((1, 1))):
            first = bag(plan, outers, tables)
            first.append("more")
            second = bag(plan, outers, tables)
            self.assertEqual(first[:-1], second)
            told = answer(plan, tables)
            told.append("more")
            self.assertEqual(answer(plan, tables), told[:-1])
        self.assertEqual(tables, TABLES)
        self.assertEqual(outers, [(1, 2)])

    def test_the_order_of_rows_does_not_matter(self):
        plans = [group(cols(0), [("sum", False, col(1))], SCAN_N), ("window", (("place", None, (), (asc(1),), None),), SCAN_N),
                 top([asc(1)], 3, 1, SCAN_N), ("distinct", SCAN_N), where(FAULTY, SCAN_N), ("except", SCAN_N, rows((1, 10)))]
        for plan in plans:
            wanted = answer(plan, TABLES)
            for order in itertools.permutations(N_ROWS):
                self.assertEqual(answer(plan, {"n": (N, list(order))}), wanted)

    def test_queries(self):
        schemas = (N, M)
        query = ("SELECT a, count(*) AS n, (SELECT x FROM m WHERE k = n.a) FROM n WHERE b IS NOT NULL GROUP BY a ORDER BY n DESC, a "
                 "NULLS FIRST LIMIT 3")
        self.assertEqual(answer(plan_of(query, schemas), TABLES), [(1, 2, "x"), (None, 1, None), (0, 1, "7")])


if __name__ == "__main__":
    unittest.main()
