"""The checker: which steps it takes, and that it takes none that changes an answer ([8.2])."""

import random
import unittest

from peristyle.checker import takes, takes_all
from peristyle.errors import PeristyleError
from peristyle.meaning import answer
from peristyle.plan import kinds
from peristyle.rules import RULES, found
from tests.chanceplans import Chance
from tests.plans import ONE_ROW, SCAN_T, SCAN_U, TRUE, col, cols, join, num, op, select, where
from tests.rulecases import B_IS_X, LOW, REFUSED, RULE_SCHEMAS, SHAKY, TAKEN, conj, distinct, eq, exists, union

SPLIT = (where(conj(LOW, B_IS_X), SCAN_T), where(B_IS_X, where(LOW, SCAN_T)))


def changed_parts(plan):
    """The plan with one part of it changed, in many ways."""
    if isinstance(plan, tuple):
        for number, part in enumerate(plan):
            for other in changed_parts(part):
                yield (*plan[:number], other, *plan[number + 1:])
            yield (*plan[:number], *plan[number + 1:])
    elif isinstance(plan, bool):
        yield not plan
    elif isinstance(plan, int):
        yield plan + 1
        yield plan - 1
    elif isinstance(plan, str):
        for word in ("t", "u", "inner", "left", "and", "or", "lt", "eq", "semi", "anti"):
            if word != plan:
                yield word


def right_ones(plans, wanted):
    for plan in plans:
        try:
            if kinds(plan, RULE_SCHEMAS) == wanted:
                yield plan
        except PeristyleError:
            pass


class CheckerTest(unittest.TestCase):
    def test_a_step_by_the_name_of_another_rule(self):
        for rule, cases in TAKEN.items():
            for before, after in cases[:2]:
                names = [step[0] for step in found(before, RULE_SCHEMAS) if step[1:] == ((), after)]
                for other in RULES:
                    with self.subTest(rule=rule, other=other):
                        self.assertIs(takes(before, (other, (), after), RULE_SCHEMAS), other in names)

    def test_names_that_are_no_rules(self):
        before, after = SPLIT
        for name in ("", "Split", "split ", "splits", "where", "nothing", "get", "None", "__init__", "\n", "and"):
            self.assertIs(takes(before, (name, (), after), RULE_SCHEMAS), False)
            self.assertIs(takes(before, (name, (0,), after), RULE_SCHEMAS), False)

    def test_paths(self):
        before, after = SPLIT
        plan, new = join(before, SCAN_U), join(after, SCAN_U)
        self.assertIs(takes(plan, ("split", (0,), new), RULE_SCHEMAS), True)
        self.assertIs(takes(plan, ("split", (0,), plan), RULE_SCHEMAS), False)
        for path in ((), (1,), (2,), (-1,), (-2,), (0, 0), (0, 1), (0, 0, 0), (1, 0), (1, 1, 1), (10 ** 30,), (0,) * 200, (0, -1)):
            self.assertIs(takes(plan, ("split", path, new), RULE_SCHEMAS), False, path)
        plan, new = distinct(before), distinct(after)
        self.assertIs(takes(plan, ("split", (0,), new), RULE_SCHEMAS), True)
        for path in ((1,), (-1,), (2,)):
            self.assertIs(takes(plan, ("split", path, new), RULE_SCHEMAS), False, path)
        for path in ((0,), (0, 0), (1,)):
            for plan in (SCAN_T, ONE_ROW):
                for rule in RULES:
                    self.assertIs(takes(plan, (rule, path, plan), RULE_SCHEMAS), False)

    def test_no_path_leads_into_an_expression(self):
        before, after = SPLIT
        plan, new = where(exists(before), SCAN_U), where(exists(after), SCAN_U)
        for path in ((), (0,), (1,), (1, 1), (0, 1), (1, 0)):
            self.assertIs(takes(plan, ("split", path, new), RULE_SCHEMAS), False)

    def test_the_rest_of_the_plan_stays(self):
        before, after = SPLIT
        for other in (join(after, SCAN_U, TRUE, "left"), join(after, SCAN_U, LOW), join(after, distinct(SCAN_U)), after):
            self.assertIs(takes(join(before, SCAN_U), ("split", (0,), other), RULE_SCHEMAS), False)

    def test_plans_after_with_a_part_changed(self):
        for rule, cases in TAKEN.items():
            for before, after in cases:
                wanted = kinds(before, RULE_SCHEMAS)
                told = [step[2] for step in found(before, RULE_SCHEMAS) if step[:2] == (rule, ())]
                tables = [Chance(random.Random(seed), RULE_SCHEMAS).tables(most) for seed, most in enumerate((0, 2, 5, 5))]
                for other in right_ones(changed_parts(after), wanted):
                    if takes(before, (rule, (), other), RULE_SCHEMAS):
                        self.assertIn(other, told)
                        for rows in tables:
                            self.assertEqual(answer(before, rows), answer(other, rows))

    def test_what_is_taken_keeps_the_answer(self):
        """Plans of the cases against one another, by each rule."""
        rng = random.Random(1)
        plans = [plan for cases in TAKEN.values() for case in cases for plan in case]
        plans += [plan for cases in REFUSED.values() for case in cases for plan in case[1:]]
        tables = [Chance(random.Random(seed), RULE_SCHEMAS).tables(most) for seed, most in enumerate((0, 3, 5))]
        told = [(plan, kinds(plan, RULE_SCHEMAS), [answer(plan, rows) for rows in tables]) for plan in plans]
        taken = 0
        for plan, wanted, answers in told:
            for other, found_kinds, found_answers in told:
                if wanted == found_kinds and rng.random() < 0.15:
                    for rule in RULES:
                        if takes(plan, (rule, (), other), RULE_SCHEMAS):
                            taken += 1
                            self.assertEqual(found_answers, answers, (rule, plan, other))
        self.assertGreater(taken, 5)

    def test_several_steps(self):
        plan = where(conj(LOW, conj(B_IS_X, eq(col(2), TRUE))), union(SCAN_T, SCAN_T))
        steps = []
        for rule in ("split", "unite", "split"):
            now = steps[-1][2] if steps else plan
            steps.append([step for step in found(now, RULE_SCHEMAS) if step[0] == rule][0])
        self.assertIs(takes_all(plan, steps, RULE_SCHEMAS), True)
        self.assertIs(takes_all(plan, tuple(steps), RULE_SCHEMAS), True)
        self.assertIs(takes_all(plan, [], RULE_SCHEMAS), True)
        self.assertIs(takes_all(plan, steps[:1], RULE_SCHEMAS), True)
        self.assertIs(takes_all(plan, steps[1:], RULE_SCHEMAS), False)
        self.assertIs(takes_all(plan, [steps[0], steps[2], steps[1]], RULE_SCHEMAS), False)
        self.assertIs(takes_all(plan, steps[:2] + [("merge",) + steps[2][1:]], RULE_SCHEMAS), False)
        self.assertIs(takes_all(plan, [("merge",) + steps[0][1:]] + steps[1:], RULE_SCHEMAS), False)
        self.assertIs(takes_all(plan, steps + [steps[0]], RULE_SCHEMAS), False)

    def test_other_schemas_do_not_matter(self):
        before, after = SPLIT
        for schemas in (RULE_SCHEMAS[:1], RULE_SCHEMAS[::-1]):
            self.assertIs(takes(before, ("split", (), after), schemas), True)

    def test_a_key_of_the_schema_is_needed(self):
        plan = distinct(SCAN_T)
        keyless = (RULE_SCHEMAS[0][:2] + ((),),)
        self.assertIs(takes(plan, ("once", (), SCAN_T), RULE_SCHEMAS), True)
        self.assertIs(takes(plan, ("once", (), SCAN_T), keyless), False)

    def test_what_is_handed_in_stays(self):
        steps = [("fold", (), where(eq(num(3), col(0)), SCAN_T))]
        plan = where(eq(op("add", num(1), num(2)), col(0)), SCAN_T)
        self.assertIs(takes_all(plan, steps, RULE_SCHEMAS), True)
        self.assertEqual(steps, [("fold", (), where(eq(num(3), col(0)), SCAN_T))])

    def test_a_deep_plan(self):
        plan, new, path = where(conj(LOW, SHAKY), SCAN_U), where(SHAKY, where(LOW, SCAN_U)), ()
        for level in range(50):
            plan, new, path = select(cols(1, 0), plan), select(cols(1, 0), new), path + (0,)
        self.assertIs(takes(plan, ("split", path, new), RULE_SCHEMAS), True)
        self.assertIs(takes(plan, ("split", path[1:], new), RULE_SCHEMAS), False)


if __name__ == "__main__":
    unittest.main()
