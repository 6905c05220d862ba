"""The rules of steps ([8.1] to [8.8]): what they make of plans, and what they leave alone."""

import random
import unittest

from peristyle.checker import takes
from peristyle.errors import TooMuch
from peristyle.meaning import answer
from peristyle.plan import kinds, moved, nodes
from peristyle.rules import RULES, found
from tests.chanceplans import Chance
from tests.plans import SCAN_T, SCAN_U, TRUE, asc, col, cols, group, join, num, op, outer, select, text, top, where
from tests.rulecases import (
    B_IS_X, FALSE, FOLDED, LOW, NOT_FOUND, NULL, REFUSED, RULE_SCHEMAS, SHAKY, TAKEN, both, conj, distinct, eq, fun, inn, neg, shaky,
    union, window,
)

# Around a plan with these kinds: another plan, and the number that leads back.
AROUND = [
    ("where", 0, lambda plan, told: where(TRUE, plan)),
    ("select", 0, lambda plan, told: select([col(place) for place in reversed(range(len(told)))], plan)),
    ("left", 0, lambda plan, told: join(plan, SCAN_U, FALSE, "left")),
    ("right", 1, lambda plan, told: join(SCAN_U, plan, TRUE, "full")),
    ("semi", 1, lambda plan, told: join(SCAN_U, plan, TRUE, "semi")),
    ("group", 0, lambda plan, told: group([col(place) for place in range(len(told))], (), plan)),
    ("distinct", 0, lambda plan, told: distinct(plan)),
    ("union left", 0, lambda plan, told: union(plan, empty(told))),
    ("union right", 1, lambda plan, told: union(empty(told), plan)),
    ("except left", 0, lambda plan, told: ("except", plan, empty(told))),
    ("except right", 1, lambda plan, told: ("except", empty(told), plan)),
    ("meet left", 0, lambda plan, told: ("meet", plan, plan)),
    ("meet right", 1, lambda plan, told: ("meet", empty(told), plan)),
    ("window", 0, lambda plan, told: window([fun("place")], plan)),
    ("top", 0, lambda plan, told: top((), 5, 1, plan)),
]


def empty(told):
    return ("rows", told, ())


def wrapped(plan, new, number):
    """The plans deeper and deeper inside of others, always in other ones, with their paths."""
    path = ()
    for level in range(5):
        told = kinds(plan, RULE_SCHEMAS)
        _, step, wrap = AROUND[(number + 4 * level) % len(AROUND)]
        if wrap is AROUND[11][2]:
            plan, new = ("meet", plan, plan), ("meet", new, plan)
        else:
            plan, new = wrap(plan, told), wrap(new, told)
        path = (step,) + path
        try:
            kinds(plan, RULE_SCHEMAS)
            kinds(new, RULE_SCHEMAS)
        except TooMuch:
            return
        yield plan, new, path


def tables_by_chance(seed, most=4):
    return Chance(random.Random(seed), RULE_SCHEMAS).tables(most)


class RulesTest(unittest.TestCase):
    def check_step(self, plan, step):
        """It is found, taken, and changes no answer."""
        self.assertIn(step, found(plan, RULE_SCHEMAS))
        self.assertIs(takes(plan, step, RULE_SCHEMAS), True)
        self.check_answers(plan, step[2])

    def check_answers(self, plan, after):
        self.assertEqual(kinds(plan, RULE_SCHEMAS), kinds(after, RULE_SCHEMAS))
        for most in (0, 2, 4):
            tables = tables_by_chance(len(str(plan)) + most, most)
            self.assertEqual(answer(after, tables), answer(plan, tables))

    def test_each_rule_has_cases(self):
        names = """split merge true select inline same down downright on off swap swapouter turn turnback strict unite once
        oncewhere groupwhere prune drop exists notexists within semi fold""".split()
        self.assertEqual(sorted(RULES), sorted(names))
        self.assertEqual(sorted(list(TAKEN) + ["fold"]), sorted(names))
        self.assertEqual(set(names) - set(REFUSED), {"fold"})

    def test_steps_that_fit(self):
        for rule, cases in TAKEN.items():
            for number, (before, after) in enumerate(cases):
                with self.subTest(rule=rule, number=number):
                    self.check_step(before, (rule, (), after))

    def test_steps_further_inside(self):
        number = 0
        for rule, cases in TAKEN.items():
            for before, after in cases:
                number += 1
                for plan, new, path in wrapped(before, after, number):
                    with self.subTest(rule=rule, plan=plan):
                        self.check_step(plan, (rule, path, new))

    def test_each_word_of_a_plan_around(self):
        before, after = where(conj(LOW, eq(col(1), num(1))), SCAN_U), where(eq(col(1), num(1)), where(LOW, SCAN_U))
        for name, number, wrap in AROUND:
            with self.subTest(name):
                plan, new = wrap(before, ("int", "int")), wrap(after, ("int", "int"))
                if name == "meet left":
                    new = ("meet", after, before)
                self.check_step(plan, ("split", (number,), new))

    def test_steps_that_break_one_if(self):
        for rule, cases in REFUSED.items():
            for why, before, after in cases:
                with self.subTest(rule=rule, why=why):
                    kinds(before, RULE_SCHEMAS)
                    self.assertEqual(kinds(after, RULE_SCHEMAS), kinds(before, RULE_SCHEMAS))
                    self.assertIs(takes(before, (rule, (), after), RULE_SCHEMAS), False)
                    steps = found(before, RULE_SCHEMAS)
                    self.assertNotIn((rule, (), after), steps)
                    for step in steps:
                        self.check_step(before, step)
                    outside = top((), None, 0, before)
                    self.assertIs(takes(outside, (rule, (0,), top((), None, 0, after)), RULE_SCHEMAS), False)

    def test_plans_of_which_a_rule_makes_nothing(self):
        for rule, cases in NOT_FOUND.items():
            for why, plan in cases:
                with self.subTest(rule=rule, why=why):
                    kinds(plan, RULE_SCHEMAS)
                    steps = found(plan, RULE_SCHEMAS)
                    self.assertNotIn((rule, ()), [step[:2] for step in steps])
                    for step in steps:
                        self.check_step(plan, step)

    def test_there_and_back(self):
        for there, back in (("on", "off"), ("off", "on"), ("turn", "turnback"), ("turnback", "turn")):
            for before, after in TAKEN[there]:
                with self.subTest(there=there, plan=before):
                    self.check_step(after, (back, (), before))
        for rule in ("swap", "swapouter"):
            for before, after in TAKEN[rule]:
                with self.subTest(rule=rule, plan=before):
                    steps = [step for step in found(after, RULE_SCHEMAS) if step[:2] == (rule, (0,))]
                    self.assertEqual(len(steps), 1)
                    one = [step for step in found(steps[0][2], RULE_SCHEMAS) if step[:2] == ("inline", ())]
                    same = [step for step in found(one[0][2], RULE_SCHEMAS) if step[:2] == ("same", ())]
                    self.assertEqual(same[0][2], before)

    def test_fold_at_each_place(self):
        for expr, wanted in FOLDED:
            with self.subTest(expr):
                plan = where(expr, SCAN_T)
                steps = [step for step in found(plan, RULE_SCHEMAS) if step[0] == "fold"]
                self.assertCountEqual(steps, [("fold", (), where(told, SCAN_T)) for told in wanted])
                plan = select((col(1), expr, expr), SCAN_T)
                steps = [step for step in found(plan, RULE_SCHEMAS) if step[0] == "fold"]
                afters = [select((col(1), told, expr), SCAN_T) for told in wanted]
                afters += [select((col(1), expr, told), SCAN_T) for told in wanted]
                self.assertCountEqual(steps, [("fold", (), after) for after in afters])
                for step in steps:
                    self.check_step(plan, step)

    def test_strict_in(self):
        ints = [("add", 2), ("sub", 2), ("mul", 2), ("div", 2), ("mod", 2), ("neg", 1), ("abs", 1), ("most", 2), ("least", 2)]
        right, left = col(4), col(0)
        strict = [eq(op(name, *[right, left][:many]), num(1)) for name, many in ints]
        strict += [eq(op(name, *[left, right]), num(1)) for name, many in ints if many == 2]
        strict += [op(name, right, left) for name in ("eq", "ne", "lt", "le", "gt", "ge")]
        strict += [op("like", op("words", right), text("1*")), eq(op("size", op("upper", op("lower", op("words", right)))), num(1)),
                   eq(op("part", text("abc"), num(1), right), text("a")), eq(op("number", op("cat", text("1"), op("words", right))), num(1)),
                   neg(eq(right, num(2))), conj(LOW, eq(right, num(2))), conj(eq(right, left), SHAKY), both(eq(right, left), neg(eq(col(3), left))),
                   conj(both(LOW, LOW), both(eq(col(3), left), conj(LOW, eq(right, left))))]
        loose = [op("isnull", right), op("same", right, left), eq(op("coalesce", right, left), num(1)), eq(op("nullif", right, left), num(1)),
                 eq(("case", ((LOW, right),), right), num(1)), both(eq(right, left), LOW), both(LOW, eq(right, left)), LOW, conj(LOW, LOW),
                 FALSE, NULL, conj(NULL, LOW), eq(num(None), left), eq(op("add", left, num(None)), left), conj(FALSE, LOW),
                 neg(op("isnull", right)), inn(right, select((col(0),), SCAN_U)), neg(both(eq(right, left), LOW)),
                 eq(col(1), text("x")), col(2), neg(conj(eq(right, left), LOW))]
        for cond in strict + loose:
            plan = where(cond, join(SCAN_T, SCAN_U, op("le", col(0), col(3)), "left"))
            after = where(cond, join(SCAN_T, SCAN_U, op("le", col(0), col(3))))
            with self.subTest(cond):
                if cond in strict:
                    self.check_step(plan, ("strict", (), after))
                else:
                    self.assertNotIn(("strict", (), after), found(plan, RULE_SCHEMAS))

    def test_prune_of_joins_of_all_kinds(self):
        for kind in ("inner", "left", "right", "full", "semi", "anti"):
            for wanted in ((), (0,), (1,), (0, 1), (0, 3), (1, 4), (0, 1, 2), (2, 3, 4), (0, 1, 2, 3, 4)):
                if kind in ("semi", "anti") and any(place > 2 for place in wanted):
                    continue
                for cond, uses in ((TRUE, ()), (eq(col(0), col(3)), (0, 3)), (eq(col(3), col(4)), (3, 4)), (B_IS_X, (1,))):
                    plan = select(cols(*wanted), join(SCAN_T, SCAN_U, cond, kind))
                    needed = set(wanted) | set(uses)
                    afters = []
                    for side in ({0, 1, 2}, {3, 4}):
                        kept = sorted(needed & side)
                        if set(kept) != side:
                            places = {place: number for number, place in enumerate(sorted(set(kept) | ({0, 1, 2, 3, 4} - side)))}
                            less = select(cols(*[place - min(side) for place in kept]), SCAN_T if 0 in side else SCAN_U)
                            sides = (less, SCAN_U) if 0 in side else (SCAN_T, less)
                            afters.append(select(cols(*[places[place] for place in wanted]), join(*sides, moved(cond, places), kind)))
                    with self.subTest(kind=kind, wanted=wanted, cond=cond):
                        steps = [step for step in found(plan, RULE_SCHEMAS) if step[:2] == ("prune", ())]
                        self.assertCountEqual(steps, [("prune", (), after) for after in afters])
                        for step in steps:
                            self.check_step(plan, step)

    def test_more_than_500_steps(self):
        pairs = [op("lt", op("neg", num(place)), op("abs", num(place))) for place in range(24)]
        few = select(pairs[:20], SCAN_U)
        self.assertEqual(len(found(few, RULE_SCHEMAS)), 40)
        plan = few
        for _ in range(11):
            plan = union(plan, few)
        self.assertEqual(len(found(plan, RULE_SCHEMAS)), 480)
        plan = union(plan, select(pairs[:20], SCAN_U))
        self.assertLess(nodes(plan), 2001)
        steps = found(plan, RULE_SCHEMAS)
        self.assertEqual(len(steps), 500)
        for step in steps:
            self.assertIs(takes(plan, step, RULE_SCHEMAS), True)

    def test_no_step_leads_out_of_the_bounds(self):
        deep = join(SCAN_T, SCAN_U)
        names = {step[0] for step in found(deep, RULE_SCHEMAS)}
        self.assertIn("swap", names)
        for _ in range(57):
            deep = distinct(deep)
        kinds(deep, RULE_SCHEMAS)
        self.assertIn("swap", {step[0] for step in found(deep, RULE_SCHEMAS)})
        deep = distinct(deep)
        kinds(deep, RULE_SCHEMAS)
        self.assertNotIn("swap", {step[0] for step in found(deep, RULE_SCHEMAS)})
        wide = join(select([col(0)] * 13, SCAN_T), select([col(0)] * 12, SCAN_T), eq(col(0), col(13)), "semi")
        self.assertEqual([step for step in found(wide, RULE_SCHEMAS) if step[0] == "semi"], [])
        wide = join(select([col(0)] * 12, SCAN_T), select([col(0)] * 12, SCAN_T), eq(col(0), col(12)), "semi")
        self.assertEqual(len([step for step in found(wide, RULE_SCHEMAS) if step[0] == "semi"]), 1)
        for many, there in ((1994, True), (1995, False)):
            # The other order of this join has six nodes more.
            join_of_both = join(SCAN_T, SCAN_U, LOW)
            block = select([neg(eq(col(0), col(3)))] * 18, join_of_both)
            plan = block
            while nodes(plan) < many - 80:
                plan = union(plan, block)
            large = (many - nodes(plan) - 26) // 3
            plan = union(plan, select([neg(eq(col(0), col(3)))] * large + [TRUE] * (18 - large), join_of_both))
            while nodes(plan) < many:
                plan = distinct(plan)
            kinds(plan, RULE_SCHEMAS)
            steps = [step for step in found(plan, RULE_SCHEMAS) if step[0] == "swap"]
            self.assertEqual(len(steps) > 0, there)
            for step in steps:
                kinds(step[2], RULE_SCHEMAS)
        large = select([op("add", col(0), op("abs", col(0)))] * 20, SCAN_U)
        for _ in range(20):
            steps = [step for step in found(select([op("add", col(0), col(0))] * 20, large), RULE_SCHEMAS) if step[:2] == ("inline", ())]
            if not steps:
                break
            large = steps[0][2]
        self.assertEqual(steps, [])

    def test_found_leaves_the_plan_alone(self):
        plan = where(conj(LOW, B_IS_X), SCAN_T)
        copy = eval(repr(plan))
        steps = found(plan, RULE_SCHEMAS)
        self.assertEqual(plan, copy)
        steps.clear()
        self.assertNotEqual(found(plan, RULE_SCHEMAS), [])
        for step in found(plan, RULE_SCHEMAS):
            self.assertEqual([type(part) for part in step], [str, tuple, tuple])

    def test_nothing_is_found(self):
        for plan in (SCAN_T, ("rows", ("int",), ((1,),)), distinct(SCAN_U), top((asc(0),), 1, 0, SCAN_U), join(SCAN_T, SCAN_U, LOW, "full")):
            self.assertEqual(found(plan, RULE_SCHEMAS), [])

    def test_by_chance(self):
        rng = random.Random(8)
        chance = Chance(rng, RULE_SCHEMAS)
        for _ in range(250):
            plan = chance.right_plan(rng.randrange(1, 5))
            tables = [chance.tables(most) for most in (0, 3, 5)]
            wanted = [answer(plan, told) for told in tables]
            for step in found(plan, RULE_SCHEMAS):
                self.assertEqual(kinds(step[2], RULE_SCHEMAS), kinds(plan, RULE_SCHEMAS))
                self.assertIs(takes(plan, step, RULE_SCHEMAS), True)
                self.assertEqual([answer(step[2], told) for told in tables], wanted, (plan, step))

    def test_cases_by_chance_around(self):
        """The plans of the cases with parts changed by chance: what is taken keeps the answer."""
        rng = random.Random(9)
        conds = [TRUE, FALSE, NULL, LOW, SHAKY, eq(col(0), col(1)), shaky(1)]
        plans = [SCAN_U, where(SHAKY, SCAN_U), select((op("div", num(1), col(0)), col(1)), SCAN_U), distinct(SCAN_U), union(SCAN_U, SCAN_U)]
        seen = set()
        for _ in range(400):
            left, right = rng.choice(plans), rng.choice(plans)
            cond, other = rng.choice(conds), rng.choice(conds + [eq(col(0), col(2)), eq(col(3), col(1))])
            kind = rng.choice(("inner", "left", "right", "full", "semi", "anti"))
            plan = rng.choice((where(conj(cond, other), left) if other in conds else left, where(cond, join(left, right, other, kind)),
                               where(cond, union(left, right)), where(cond, where(rng.choice(conds), left)), where(cond, distinct(left)),
                               where(cond, group(cols(0, 1), (), left)), join(join(left, right, other), SCAN_U, cond),
                               join(left, join(right, SCAN_U, other), cond), distinct(group(cols(0), (), left)),
                               where(("exists", where(eq(outer(1, 0), col(0)), right)), left)))
            tables = [tables_by_chance(rng.random(), most) for most in (0, 2, 5)]
            wanted = [answer(plan, told) for told in tables]
            for step in found(plan, RULE_SCHEMAS):
                seen.add(step[0])
                self.assertEqual([answer(step[2], told) for told in tables], wanted, (plan, step))
        self.assertGreater(len(seen), 14, seen)


if __name__ == "__main__":
    unittest.main()
