"""Views ([11.1] to [11.4])."""

import random
import unittest
from collections import Counter

from peristyle.errors import BadKind
from peristyle.meaning import bag
from peristyle.plan import kinds, nodes
from peristyle.value import fault, sorted_rows
from peristyle.view import View, can_keep, change_of
from tests.chanceplans import Chance
from tests.plans import ONE_ROW, SCAN_T, SCAN_U, SCAN_W, SCHEMAS, TRUE, asc, col, cols, group, join, num, op, select, text, top, where
from tests.rulecases import FALSE, LOW, conj, distinct, eq, exists, fun, inn, scalar, shaky, union, window

GREAT = 6 * 10 ** 17
SUMS = group((col(0),), (("sum", False, col(1)),), SCAN_U)
ADD = op("add", col(0), num(1))
AGGS = [("rows", False, None)] + [(name, distinct_too, arg) for distinct_too in (False, True) for name, arg in (
    ("count", col(1)), ("sum", col(1)), ("avg", col(1)), ("min", col(1)), ("max", col(1)), ("every", LOW), ("some", op("isnull", col(1))))]
KEPT = [
    SCAN_T, ONE_ROW, ("rows", ("int",), ((1,), (None,), (1,))), where(LOW, SCAN_T), select((col(1), op("neg", col(0))), SCAN_U), select((), SCAN_U),
    union(SCAN_U, SCAN_U), union(SCAN_U, ("rows", ("int", "int"), ((1, 2),))), distinct(SCAN_U), distinct(select((col(1),), SCAN_U)),
    ("except", SCAN_U, where(LOW, SCAN_U)), ("meet", union(SCAN_U, SCAN_U), SCAN_U), ("except", select((col(0),), SCAN_T), select((col(1),), SCAN_U)),
    join(SCAN_T, SCAN_U, eq(col(0), col(3))), join(SCAN_T, SCAN_U, TRUE), join(SCAN_U, SCAN_U, conj(eq(col(1), col(3)), op("lt", col(0), col(2)))),
    join(SCAN_T, SCAN_U, conj(eq(op("abs", col(0)), col(4)), TRUE), "semi"), join(SCAN_T, SCAN_U, eq(col(0), col(4)), "anti"), join(SCAN_U, SCAN_U, eq(col(1), col(3)), "anti"),
    join(SCAN_T, SCAN_U, op("lt", col(0), col(4)), "anti"), join(SCAN_T, SCAN_U, op("lt", col(0), col(3)), "semi"), join(SCAN_T, ONE_ROW, TRUE, "semi"),
    group((), tuple(AGGS), SCAN_U), group((col(0),), tuple(AGGS), SCAN_U), group((op("isnull", col(1)), col(0)), (), SCAN_U), group((), (), SCAN_U),
    SUMS, select((col(1), col(0), col(1)), SUMS), union(SUMS, SCAN_U), where(LOW, SUMS), join(SUMS, SCAN_U, eq(col(0), col(2))), select((col(1),), join(SCAN_T, SUMS, eq(col(0), col(3)))),
    distinct(group((col(0),), (("max", False, col(1)),), union(SCAN_U, SCAN_U))), join(group((col(1),), (("rows", False, None),), SCAN_T), SCAN_W, eq(col(0), col(3)), "anti"),
    group((col(0),), (("count", True, col(1)),), join(SCAN_T, SCAN_U, eq(col(0), col(3)), "semi")), select((("case", ((LOW, num(1)),), col(1)),), SCAN_U),
    union(join(SCAN_U, SCAN_U, eq(col(0), col(3)), "semi"), select((col(0), col(0)), where(op("isnull", col(1)), SCAN_T))), where(FALSE, SCAN_T), where(LOW, ("rows", ("int",), ((1,), (5,)))),
]
# By what it is that each of them cannot be kept for.
NOT_KEPT = {
    "left": join(SCAN_T, SCAN_U, eq(col(0), col(3)), "left"), "right": join(SCAN_T, SCAN_U, TRUE, "right"), "full": join(SCAN_T, SCAN_U, TRUE, "full"),
    "window": window((fun("place"),), SCAN_U), "window without functions": window((), SCAN_U), "top": top((), None, 0, SCAN_U), "top with an order": top((asc(0),), 3, 0, SCAN_U),
    "exists": where(exists(SCAN_U), SCAN_T), "in": where(inn(col(0), select((col(0),), SCAN_U)), SCAN_T), "a scalar": select((scalar(group((), (("rows", False, None),), SCAN_U)),), SCAN_T),
    "a plan deep in an expression": select((("case", ((LOW, op("abs", scalar(group((), (("rows", False, None),), SCAN_U)))),), num(1)),), SCAN_T),
    "a plan in a join": join(SCAN_T, SCAN_U, exists(SCAN_U)), "a plan in a key": group((exists(SCAN_U),), (), SCAN_T), "a plan in an agg": group((), (("some", False, exists(SCAN_U)),), SCAN_T),
    "add": select((ADD,), SCAN_U), "add in a where": where(op("lt", ADD, num(3)), SCAN_U), "div in a join": join(SCAN_T, SCAN_U, shaky(0)), "a key": group((ADD,), (), SCAN_U),
    "an agg": group((), (("max", False, ADD),), SCAN_U), "a sum of what may be a fault": group((), (("sum", False, ADD),), SCAN_U), "count": group((), (("count", False, ADD),), SCAN_U),
    "add beside": where(conj(LOW, conj(TRUE, op("lt", ADD, num(3)))), SCAN_U), "inside of isnull": select((op("isnull", ADD),), SCAN_U), "in a case": select((("case", ((FALSE, ADD),), col(0)),), SCAN_U),
    "a where by a sum": where(op("lt", col(1), num(3)), SUMS), "an expression of a sum": select((op("neg", col(1)),), SUMS), "isnull of a sum": select((op("isnull", col(1)),), SUMS),
    "distinct of a sum": distinct(SUMS), "except of a sum": ("except", SUMS, SCAN_U), "except by a sum": ("except", SCAN_U, SUMS), "meet of a sum": ("meet", SUMS, SUMS), "join by a sum": join(SUMS, SCAN_U, eq(col(1), col(2))),
    "a group by a sum": group((col(1),), (), SUMS), "a max of a sum": group((), (("max", False, col(1)),), SUMS), "a sum of a sum": group((), (("sum", False, col(1)),), SUMS), "count of a sum": group((), (("count", False, col(1)),), SUMS),
    "a sum through a select": where(op("isnull", col(0)), select((col(1),), SUMS)), "a sum through a union": distinct(union(SCAN_U, SUMS)),
    "far inside": distinct(union(SCAN_U, select(cols(0, 3), join(SCAN_T, SCAN_U, TRUE, "left")))),
}


def change_by_chance(rng, chance, now, most=6):
    """A change after which the keys are kept; equal rows may go and come."""
    change = {}
    told = chance.tables(most)
    for name, _, keys in SCHEMAS:
        if rng.random() < 0.4:
            continue
        gone = [row for row in now[name] if rng.random() < 0.4]
        rest = list(now[name])
        for row in gone:
            rest.remove(row)
        new = []
        for row in told[name][1] + [row for row in gone if rng.random() < 0.5]:
            if not any(all(row[place] == other[place] for place in key) for key in keys for other in rest + new):
                new.append(row)
        if name == "u" and new and rng.random() < 0.5:
            new.append(new[0])
        change[name] = (gone, new)
    return change


def after(now, change):
    found = {name: list(rows) for name, rows in now.items()}
    for name, (gone, new) in change.items():
        for row in gone:
            found[name].remove(row)
        found[name].extend(new)
    return found


class ViewTest(unittest.TestCase):
    def wanted(self, plan, now):
        return sorted_rows(bag(plan, [], {schema[0]: (schema, now[schema[0]]) for schema in SCHEMAS}))

    def check_change(self, plan, view, now, change):
        """The tables after the change, after a look at what the view and change_of tell."""
        before, looked = view.rows(), view.looked()
        copy = eval(repr((now, change)))
        told = view.change(change)
        then = after(now, change)
        self.assertEqual(view.rows(), self.wanted(plan, then), (plan, now, change))
        gone, new = change_of(plan, SCHEMAS, now, change)
        self.assertEqual(told, (gone, new))
        self.assertEqual((now, change), copy)
        self.assertEqual([type(gone), type(new)], [list, list])
        self.assertEqual(set(gone) & set(new), set())
        self.assertEqual((gone, new), (sorted_rows(gone), sorted_rows(new)))
        counts = Counter(before)
        counts.subtract(gone)
        self.assertTrue(all(many >= 0 for many in counts.values()))
        counts.update(new)
        self.assertEqual(sorted_rows(counts.elements()), view.rows())
        many = sum(len(pair[0]) + len(pair[1]) for pair in change.values())
        if not any(f"'{word}'" in repr(plan) for word in ("join", "group", "distinct", "except", "meet")):
            self.assertLessEqual(view.looked() - looked, 4 * many * nodes(plan) ** 2)
        return then

    def check_plan(self, plan, rng, times):
        chance = Chance(rng)
        now = {name: rows for name, (_, rows) in chance.tables(rng.choice((0, 3, 6))).items()}
        if rng.random() < 0.5:
            now["u"] = now["u"] + now["u"][:2]
        view = View(plan, SCHEMAS, now)
        self.assertEqual(view.looked(), 0)
        self.assertEqual(view.rows(), self.wanted(plan, now))
        for _ in range(times):
            now = self.check_change(plan, view, now, change_by_chance(rng, chance, now))

    def test_what_can_be_kept(self):
        for plan in KEPT:
            kinds(plan, SCHEMAS)
            self.assertIs(can_keep(plan, SCHEMAS), True, plan)

    def test_what_cannot_be_kept(self):
        tables = {"t": [], "u": [], "w": []}
        for why, plan in NOT_KEPT.items():
            with self.subTest(why):
                kinds(plan, SCHEMAS)
                self.assertIs(can_keep(plan, SCHEMAS), False)
                for call in (lambda: View(plan, SCHEMAS, tables), lambda: change_of(plan, SCHEMAS, tables, {})):
                    with self.assertRaises(BadKind) as caught:
                        call()
                    self.assertEqual(caught.exception.at, -1)

    def test_each_plan_by_chance(self):
        for number, plan in enumerate(KEPT):
            with self.subTest(plan):
                for seed in range(3):
                    self.check_plan(plan, random.Random(number * 10 + seed), 6)

    def test_plans_by_chance(self):
        rng = random.Random(6)
        chance = Chance(rng)
        done = 0
        while done < 150:
            plan = chance.right_plan(rng.randrange(1, 5))
            if can_keep(plan, SCHEMAS) and plan[0] not in ("scan", "rows"):
                done += 1
                self.check_plan(plan, rng, 3)

    def test_plans_of_plans(self):
        rng = random.Random(7)
        for _ in range(120):
            one, other = rng.choice(KEPT), rng.choice(KEPT)
            left, right = kinds(one, SCHEMAS), kinds(other, SCHEMAS)
            pairs = [(place, len(left) + number) for place, kind in enumerate(left) for number, told in enumerate(right) if kind == told]
            cond = eq(*(col(place) for place in rng.choice(pairs))) if pairs else TRUE
            plan = rng.choice((join(one, other, cond, rng.choice(("inner", "semi", "anti"))), group(cols(*range(len(left)))[:2], (("rows", False, None),), one),
                               union(one, one), distinct(one), where(cond, join(one, other)), ("meet", one, one), select(cols(*range(len(left)))[::-1], one)))
            if len(left) + len(right) <= 24 and can_keep(plan, SCHEMAS):
                self.check_plan(plan, rng, 3)

    def test_a_sum_that_is_no_value_and_becomes_one_again(self):
        plan = group((), (("sum", False, col(1)), ("sum", True, col(1)), ("avg", False, col(1))), SCAN_U)
        view = View(plan, SCHEMAS, {"u": [(1, GREAT)]})
        self.assertEqual(view.change({"u": ([], [(1, GREAT)])}), ([(GREAT, GREAT, GREAT)], [(fault(4), GREAT, GREAT)]))
        self.assertEqual(view.rows(), [(fault(4), GREAT, GREAT)])
        self.assertEqual(view.change({"u": ([], [(2, GREAT - 1)])})[1], [(fault(4), fault(4), GREAT - 1)])
        self.assertEqual(view.change({"u": ([(1, GREAT), (1, GREAT)], [])})[1], [(GREAT - 1,) * 3])
        self.assertEqual(view.change({"u": ([], [(2, -GREAT), (2, None)])})[1], [(-1, -1, -1)])
        self.assertEqual(view.change({"u": ([(2, -GREAT), (2, None), (2, GREAT - 1)], [])})[1], [(None, None, None)])
        more = select((col(1),), union(SUMS, SUMS))
        view = View(more, SCHEMAS, {"u": [(1, GREAT), (1, GREAT), (2, 3)]})
        self.assertEqual(view.rows(), [(3,), (3,), (fault(4),), (fault(4),)])

    def test_groups_that_begin_and_end(self):
        plan = group((col(0),), (("rows", False, None), ("min", False, col(1)), ("max", True, col(1)), ("count", True, col(1))), SCAN_U)
        view = View(plan, SCHEMAS, {"u": []})
        self.assertEqual(view.rows(), [])
        self.assertEqual(view.change({"u": ([], [(1, 5), (1, 5), (2, None), (1, 7)])}), ([], [(1, 3, 5, 7, 2), (2, 1, None, None, 0)]))
        self.assertEqual(view.change({"u": ([(1, 5)], [])}), ([(1, 3, 5, 7, 2)], [(1, 2, 5, 7, 2)]))
        self.assertEqual(view.change({"u": ([(1, 5), (2, None)], [(1, 9)])}), ([(1, 2, 5, 7, 2), (2, 1, None, None, 0)], [(1, 2, 7, 9, 2)]))
        self.assertEqual(view.change({"u": ([(1, 9), (1, 7)], [])}), ([(1, 2, 7, 9, 2)], []))
        self.assertEqual(view.change({"u": ([], [(1, 1)])}), ([], [(1, 1, 1, 1, 1)]))

    def test_the_last_partner_goes(self):
        for kind, there in (("semi", True), ("anti", False)):
            view = View(join(SCAN_U, SCAN_W, eq(col(1), col(2)), kind), SCHEMAS, {"u": [(1, 3), (1, 3), (2, None)], "w": []})
            none = [] if there else [(2, None)]
            rows = [(1, 3), (1, 3)]
            self.assertEqual(view.rows(), none if there else rows + none)
            self.assertEqual(view.change({"w": ([], [(3, "x", None), (3, "y", 1)])}), ([], rows) if there else (rows, []))
            self.assertEqual(view.change({"w": ([(3, "x", None)], [])}), ([], []))
            self.assertEqual(view.change({"w": ([(3, "y", 1)], []), "u": ([(1, 3)], [])}), (rows, []) if there else ([], rows[:1]))
            self.assertEqual(view.change({"w": ([], [(3, "y", 1)]), "u": ([], [(1, 3), (5, 3)])}), ([], rows + [(5, 3)]) if there else (rows[:1], []))

    def test_no_change(self):
        for plan in KEPT:
            view = View(plan, SCHEMAS, {"t": [(1, "x", True)], "u": [(1, 2), (1, 2)], "w": [(1, "x", None)]})
            wanted = view.rows()
            for change in ({}, {"t": ([], [])}, {"u": ([], []), "w": ([], []), "z": ([], [])}, {"u": ([(1, 2)], [(1, 2)])}, {"t": ([(1, "x", True)], [(1, "x", True)])}):
                self.assertEqual(view.change(change), ([], []))
                self.assertEqual(view.rows(), wanted)
                self.assertEqual(view.looked(), 0)

    def test_other_tables_do_not_matter(self):
        view = View(SCAN_U, SCHEMAS[1:2], {"u": [(1, 2)], "t": [(1, "x", True)]})
        self.assertEqual(view.change({"t": ([(1, "x", True)], []), "u": ([], [(0, 0)])}), ([], [(0, 0)]))
        self.assertEqual(view.rows(), [(0, 0), (1, 2)])

    def test_lists_and_tuples(self):
        view = View(distinct(SCAN_U), SCHEMAS, {"u": ([1, 2], (1, 2))})
        self.assertEqual(view.change({"u": [((1, 2),), [[3, None]]]}), ([], [(3, None)]))
        self.assertEqual(view.rows(), [(1, 2), (3, None)])
        self.assertEqual(change_of(SCAN_U, SCHEMAS, {"u": ([1, 2],)}, {"u": (([1, 2],), ())}), ([(1, 2)], []))

    def test_what_is_handed_in_stays_and_may_change(self):
        tables, change = {"u": [(1, 2)], "t": []}, {"u": ([(1, 2)], [(3, 4)])}
        view = View(SUMS, SCHEMAS, tables)
        tables["u"].append((1, 9))
        self.assertEqual(view.rows(), [(1, 2)])
        gone, new = view.change(change)
        self.assertEqual(change, {"u": ([(1, 2)], [(3, 4)])})
        gone.clear()
        new.clear()
        change["u"][1].clear()
        view.rows().clear()
        self.assertEqual(view.rows(), [(3, 4)])

    def test_how_many_rows_are_looked_at(self):
        rows = [(number, number % 3) for number in range(1000)]
        plan = union(select((col(1),), where(LOW, SCAN_U)), select((col(0),), union(SCAN_U, where(op("isnull", col(1)), SCAN_U))))
        view = View(plan, SCHEMAS, {"u": rows})
        view.change({"u": ([(1, 1), (500, 2)], [(1001, None)])})
        self.assertLessEqual(view.looked(), 4 * 3 * nodes(plan) ** 2)
        self.assertGreaterEqual(view.looked(), 3 * 3)
        before = view.looked()
        view.change({})
        self.assertEqual(view.looked(), before)
        view = View(join(SCAN_U, SCAN_U, eq(col(0), col(2))), SCHEMAS, {"u": rows})
        view.change({"u": ([(1, 1)], [(1001, None)])})
        # The two rows on both sides, and what they met there.
        self.assertTrue(6 <= view.looked() < 50, view.looked())
        view = View(join(SCAN_U, SCAN_T, eq(col(0), col(2)), "semi"), SCHEMAS, {"u": [(1, None)] * 2 + [(1, 5)], "t": []})
        view.change({"t": ([], [(1, None, None)])})
        self.assertTrue(3 <= view.looked() < 20, view.looked())
        view = View(group((), (("min", False, col(0)),), SCAN_U), SCHEMAS, {"u": rows})
        view.change({"u": ([(5, 2)], [])})
        few = view.looked()
        self.assertTrue(1 <= few < 10, few)
        view.change({"u": ([(0, 0)], [])})
        self.assertGreater(view.looked() - few, 900)
        view = View(distinct(SCAN_U), SCHEMAS, {"u": rows})
        view.change({"u": ([(5, 2)], [(5, 2), (5, 2)])})
        self.assertTrue(1 <= view.looked() < 10, view.looked())
        view = View(where(eq(col(1), text("x")), SCAN_T), SCHEMAS, {"t": []})
        view.change({"t": ([], [(1, "x", None)])})
        self.assertTrue(0 < view.looked() <= 4 * nodes(where(eq(col(1), text("x")), SCAN_T)) ** 2)


if __name__ == "__main__":
    unittest.main()
