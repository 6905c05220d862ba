"""Printing trees ([4.7])."""

import random
import unittest

from peristyle.errors import TooMuch
from peristyle.grammar import parse
from peristyle.printer import printed
from tests.earley import chance
from tests.trees import outcome, without_places

# Each kind of expression, with holes for others.
KINDS = ["1", "'a''b'", "TRUE", "NULL", "a", "t.a", "{} OR {}", "{} AND {}", "NOT {}", "{} = {}", "{} <> {}", "{} < {}",
         "{} <= {}", "{} > {}", "{} >= {}", "{} IS NULL", "{} IS NOT NULL", "{} IS TRUE", "{} IS NOT FALSE",
         "{} BETWEEN {} AND {}", "{} NOT BETWEEN {} AND {}", "{} LIKE {}", "{} NOT LIKE {}", "{} IN ({})",
         "{} IN ({}, {})", "{} IN ({}, {}, {})", "{} NOT IN ({})", "{} NOT IN ({}, {})", "{} IN (SELECT {})",
         "{} NOT IN (VALUES ({}), ({}))", "{} + {}", "{} - {}", "{} || {}", "{} * {}", "{} / {}", "- {}", "(SELECT {})",
         "EXISTS (SELECT {} WHERE {})", "CASE WHEN {} THEN {} END", "CASE WHEN {} THEN {} WHEN {} THEN {} ELSE {} END",
         "mod({}, {})", "abs({})", "part({}, {}, {})", "f()", "f({}, {})", "count(*)", "sum(DISTINCT {})",
         "sum({}) OVER (PARTITION BY {}, {} ORDER BY {} DESC, {} NULLS FIRST)",
         "f() OVER (ROWS BETWEEN 1 PRECEDING AND UNBOUNDED FOLLOWING)",
         "f() OVER (ORDER BY {} DESC NULLS LAST ROWS BETWEEN UNBOUNDED PRECEDING AND CURRENT ROW)"]
QUERIES = ["SELECT *", "SELECT t.*, a, a AS b FROM t", "SELECT DISTINCT 1", "SELECT DISTINCT * FROM t x, u AS u, (SELECT 1) v",
           "SELECT 1 FROM t JOIN u ON a LEFT JOIN v w ON b CROSS JOIN w, x RIGHT JOIN y ON c FULL JOIN (VALUES (1)) z ON d",
           "SELECT 1 FROM t INNER JOIN u ON a = b OR c", "SELECT a WHERE b GROUP BY c, d HAVING e", "SELECT 1 HAVING 1",
           "VALUES (1, -2), ('a', NULL)", "VALUES (1)", "SELECT 1 UNION SELECT 2 EXCEPT ALL SELECT 3",
           "SELECT 1 UNION ALL SELECT 2 INTERSECT SELECT 3 INTERSECT ALL VALUES (1)", "(SELECT 1)", "((SELECT 1))",
           "(SELECT 1) UNION (SELECT 2 UNION SELECT 3)", "(SELECT 1 UNION SELECT 2) INTERSECT (SELECT 3 LIMIT 1) LIMIT 2",
           "SELECT 1 ORDER BY a, b ASC, c DESC, d NULLS FIRST, e DESC NULLS LAST", "SELECT 1 LIMIT 0", "SELECT 1 OFFSET 7",
           "SELECT 1 LIMIT 2000 OFFSET 0", "WITH x AS (SELECT 1) SELECT 2", "WITH x AS (SELECT 1), y AS ((VALUES (1))) SELECT 2",
           "SELECT 1 FROM ((SELECT 1) UNION SELECT 2) x", "SELECT EXISTS ((SELECT 1) UNION SELECT 2)",
           "SELECT 1 IN (WITH x AS (SELECT 1) SELECT 2 ORDER BY 1)", "WITH lit AS (SELECT 1) SELECT 1 FROM lit name, op AS op",
           "WITH start AS (SELECT 1) SELECT f() OVER (ROWS BETWEEN 3 PRECEDING AND 3 FOLLOWING) AS here FROM start"]


# How tightly each form binds, how many things it nests that are counted, and how tightly what stands in it must bind.
FORMS = [("{} OR {}", 1, 0, (1, 2)), ("{} AND {}", 2, 0, (2, 3)), ("NOT {}", 3, 1, (3,)), ("{} = {}", 4, 0, (5, 5)), ("{} < {}", 4, 0, (5, 5)),
         ("{} IN ({})", 4, 0, (5, 1)), ("{} NOT IN ({})", 4, 0, (5, 1)), ("{} IN ({}, {})", 4, 0, (5, 1, 1)), ("{} NOT IN ({}, {})", 4, 0, (5, 1, 1)),
         ("{} BETWEEN {} AND {}", 4, 0, (5, 5, 5)), ("{} NOT BETWEEN {} AND {}", 4, 0, (5, 5, 5)), ("{} NOT LIKE {}", 4, 0, (5, 5)),
         ("{} IS NOT NULL", 4, 0, (5,)), ("{} IS FALSE", 4, 0, (5,)), ("{} IN (SELECT {})", 4, 1, (5, 1)),
         ("{} NOT IN (SELECT {})", 4, 1, (5, 1)), ("{} + {}", 5, 0, (5, 6)),
         ("{} - {}", 5, 0, (5, 6)), ("{} * {}", 6, 0, (6, 7)), ("{} / {}", 6, 0, (6, 7)), ("-{}", 7, 1, (7,)), ("({})", 8, 1, (1,)),
         ("({})", 8, 1, (1,)), ("({})", 8, 1, (1,)), ("abs({})", 8, 1, (1,)), ("CASE WHEN {} THEN {} END", 8, 1, (1, 1)), ("(SELECT {})", 8, 1, (1,)),
         ("f(1, {})", 8, 1, (1,))]


def deep_text(rng, level, left, size):
    """An expression in which one thing is nested in the other, with at most so many that are counted."""
    fit = [form for form in FORMS if form[1] >= level and form[2] <= left]
    if size == 0 or not fit:
        return rng.choice("ab")
    form, _, cost, holes = rng.choice(fit)
    spine = rng.randrange(len(holes))
    return form.format(*[deep_text(rng, hole, left - cost, size - 1 if place == spine else rng.choice([0, 0, 0, 2]))
                         for place, hole in enumerate(holes)])


class PrinterTest(unittest.TestCase):
    def check(self, text):
        """What is printed is read as an equal tree, and printed once more it is the same."""
        tree = parse(text)
        told = printed(tree)
        self.assertIs(type(told), str)
        self.assertLessEqual(len(told), 3000)
        again = outcome(parse, told)
        self.assertEqual(without_places(again), without_places(tree), (text, told))
        self.assertEqual(printed(again), told)
        return told

    def test_queries(self):
        for text in QUERIES:
            with self.subTest(text):
                self.check(text)

    def test_each_kind_below_each_other_one(self):
        for outer in KINDS:
            for inner in KINDS:
                for hole in range(outer.count("{}")):
                    parts = ["x", "x", "y", "z", "w"][:outer.count("{}")]
                    for wrapped in ("({})", "{}"):
                        parts[hole] = wrapped.format(inner.format("p", "q", "p", "r", "s"))
                        text = "SELECT " + outer.format(*parts)
                        if outcome(parse, text)[0] == "query":
                            self.check(text)

    def test_three_of_them(self):
        rng = random.Random(1)
        for _ in range(3000):
            text = "{}"
            for _ in range(rng.randrange(2, 6)):
                at = [place for place in range(len(text)) if text.startswith("{}", place)]
                if at:
                    place = rng.choice(at)
                    text = f"{text[:place]}({rng.choice(KINDS)}){text[place + 2:]}"
            text = "SELECT " + text.replace("{}", "a")
            if outcome(parse, text) != "TooMuch":
                self.check(text)

    def test_texts_by_chance(self):
        rng = random.Random(2)
        for _ in range(400):
            text = " ".join(chance(rng, budget=rng.choice([20, 30, 40])))
            if len(text) <= 3000 and outcome(parse, text)[0] == "query":
                self.check(text)

    def test_spaces_and_letters_do_not_matter(self):
        first = self.check("SELECT a+1 AS b FROM t x WHERE NOT a IN(1,2)")
        second = self.check("select  ( a )+ 1 as b\nfrom t AS x where ((a NOT IN (1, (2))))")
        self.assertEqual(first, second)

    def test_trees_that_are_equal_but_for_their_places(self):
        for first, second in [("a BETWEEN 1 AND 2", "a >= 1 AND a <= 2"), ("a IN (1, 2)", "a = 1 OR a = 2"),
                              ("a IN (1)", "a = 1"), ("a NOT IN (1)", "NOT a = 1"), ("a NOT LIKE b", "NOT (a LIKE b)"),
                              ("a IS NOT NULL", "NOT a IS NULL"), ("a IN (1, 2, 3)", "(a = 1 OR a = 2) OR a = 3"),
                              ("a IN (1, 2, 3)", "a IN (1, 2) OR a = 3"), ("a NOT IN (1, 2)", "NOT (a = 1 OR a = 2)"),
                              ("CASE WHEN a THEN 1 END", "CASE WHEN a THEN 1 ELSE NULL END"),
                              ("a NOT BETWEEN 1 AND 2", "NOT (a >= 1 AND a <= 2)"), ("((a))", "a"),
                              ("a AND b AND c", "(a AND b) AND c"), ("f() OVER (ORDER BY a)", "f() OVER (ORDER BY a ASC NULLS LAST)")]:
            self.assertEqual(self.check("SELECT " + first), self.check("SELECT " + second))
        for first, second in [("SELECT 1 FROM t", "SELECT 1 FROM t AS t"), ("SELECT 1 OFFSET 0", "SELECT 1"),
                              ("SELECT 1 FROM t JOIN u ON a", "SELECT 1 FROM t INNER JOIN u ON a"),
                              ("SELECT 1 ORDER BY a DESC", "SELECT 1 ORDER BY a DESC NULLS FIRST")]:
            self.assertEqual(self.check(first), self.check(second))

    def test_trees_that_are_not_equal(self):
        texts = ["SELECT 1", "SELECT '1'", "SELECT TRUE", "SELECT 'TRUE'", "SELECT 'true'", "SELECT -1", "SELECT 0", "SELECT FALSE",
                 "SELECT NULL", "SELECT 'NULL'", "SELECT DISTINCT 1", "SELECT 1 AS c1", "SELECT a - (b - c)", "SELECT a - b - c",
                 "SELECT a BETWEEN 1 AND 2", "SELECT a >= 1 AND b <= 2", "SELECT 1 >= a AND TRUE <= b", "SELECT TRUE BETWEEN a AND b",
                 "SELECT 1 BETWEEN a AND b", "SELECT 1 IN (a, b)", "SELECT TRUE IN (a, b)", "SELECT 1 = a OR TRUE = b",
                 "SELECT 0 = a OR FALSE = b", "SELECT a = 1 OR (a = 2 OR a = 3)", "SELECT a IN (1, 2, 3)", "(SELECT 1)",
                 "SELECT t.a", "SELECT t.*", "SELECT *", "SELECT 1 FROM t", "SELECT 1 FROM t AS u", "SELECT a IN ((SELECT 1))",
                 "SELECT a IN (SELECT 1)", "SELECT EXISTS (SELECT 1)", "SELECT (SELECT 1)", "SELECT a IS TRUE", "SELECT a = TRUE"]
        self.assertEqual(len({self.check(text) for text in texts}), len(texts))

    def test_what_is_nested_as_deep_as_it_may(self):
        deep = ["(" * 11 + "a" + ")" * 11, "-" * 11 + "a", "NOT " * 11 + "a", "f(" * 11 + "a" + ")" * 11, "(a - " * 11 + "b" + ")" * 11,
                "(a OR b) AND " * 20 + "c", "NOT (" * 5 + "a OR b" + ")" * 5, "-(1 + " * 5 + "a" + ")" * 5,
                "a NOT IN (" * 28 + "b OR c" + ")" * 28, "a IN (" * 56 + "b" + ")" * 56, "a IN (b OR " * 27 + "b" + ")" * 27,
                "(a AND " * 11 + "b IN (" * 20 + "c" + ")" * 20 + ")" * 11, "((a = b) = c)", "a IN (NOT b, c AND d OR e)",
                "NOT (" * 5 + "a NOT IN (" * 10 + "b AND c" + ")" * 10 + ")" * 5, "a IN ((SELECT 1 IN (" * 5 + "1" + ")))" * 5,
                "(" * 11 + "a NOT IN (b, c OR d)" + ")" * 11, "(a OR " * 11 + "a NOT BETWEEN 1 AND 2" + ")" * 11,
                "CASE WHEN " * 11 + "a NOT IN (NULL IS NOT NULL)" + " THEN 1 END" * 11]
        for text in deep:
            with self.subTest(text):
                self.check("SELECT " + text)

    def test_deep_texts_by_chance(self):
        """Expressions that use all that may be nested, so that not one thing more may be nested when printed."""
        rng = random.Random(3)
        read = 0
        while read < 1200:
            text = "SELECT " + deep_text(rng, 1, 11, rng.randrange(20, 60))
            if len(text) <= 3000 and outcome(parse, text) != "TooMuch":
                read += 1
                self.check(text)

    def test_short_texts_always_have_room(self):
        texts = ["(" * 11 + "a" + ")IN(1,2)" * 11, "(" * 8 + "a" + " BETWEEN 1 AND 2)" * 7 + ")", "a IN(" * 22 + "b" + ")" * 22,
                 "(" * 11 + "a" + " IN(b,c))" * 11, "(" * 11 + "'" + "''" * 20 + "'" + ")IN(1,2)" * 10 + ")",
                 "(" * 10 + "a" + ")NOT IN(1,2)" * 10, "a NOT IN(1,a NOT IN(2,a NOT IN(3,a NOT IN(4,a NOT IN(5,a NOT IN(6,b))))))",
                 "(((((a)BETWEEN 1 AND b)IN(1,2,3))NOT BETWEEN b AND c)IN(a,b))IN(1,2)", "1" + ",1" * 70]
        for text in texts:
            self.assertLessEqual(len("SELECT " + text), 150)
            if outcome(parse, "SELECT " + text) != "TooMuch":
                self.check("SELECT " + text)

    def test_too_long(self):
        tight = "SELECT " + ",".join(["1"] * 1400)
        self.assertLessEqual(len(tight), 3000)
        tree = parse(tight)
        self.assertEqual(outcome(printed, tree), "TooMuch")
        with self.assertRaises(TooMuch) as told:
            printed(tree)
        self.assertIs(type(told.exception), TooMuch)
        longest = "SELECT 11" + ",1" * 997
        self.assertEqual(len(printed(parse(longest))), 3000)
        self.assertEqual(outcome(printed, parse("SELECT 1" + longest[7:])), "TooMuch")
        # One out of four signs more or less: the first that is too long has more than 3000.
        taken = [many for many in range(950, 1050) if outcome(printed, parse("SELECT " + ",".join(["1"] * many))) != "TooMuch"]
        longest = printed(parse("SELECT " + ",".join(["1"] * taken[-1])))
        step = len(longest) - len(printed(parse("SELECT " + ",".join(["1"] * (taken[-1] - 1)))))
        self.assertEqual(taken, list(range(950, taken[-1] + 1)))
        self.assertLessEqual(len(longest), 3000)
        self.assertGreater(len(longest) + step, 3000)

    def test_the_tree_stays_as_it_was(self):
        text = "SELECT a IN (1, 2), -b FROM t WHERE a BETWEEN 1 AND 2 ORDER BY 1 DESC"
        tree = parse(text)
        told = printed(tree)
        self.assertEqual(tree, parse(text))
        self.assertEqual(printed(tree), told)


if __name__ == "__main__":
    unittest.main()
