"""How deep things may be nested, and how large a query may be ([4.4], [4.6])."""

import itertools
import unittest

from peristyle.errors import TooMuch
from peristyle.grammar import parse
from tests.trees import expr_tree, outcome

# What begins and ends each thing that is counted, and where in the beginning the thing begins.
COUNTED = {
    "brackets": ("(", ")", 0),
    "scalar": ("(SELECT ", ")", 1),
    "exists": ("EXISTS (SELECT ", ")", 8),
    "in": ("a IN (VALUES (", "))", 6),
    "sub": ("EXISTS (SELECT 1 FROM (SELECT ", ") x)", 0),
    "case": ("CASE WHEN ", " THEN 1 END", 0),
    "minus": ("-", "", 0),
    "call": ("f(", ")", 0),
    "function": ("abs(", ")", 0),
    "over": ("f() OVER (ORDER BY ", ")", 0),
}


def levels(tree):
    """How deep a tree is nested, in queries, bodies, sources and expressions."""
    below = [0]
    waiting = [(tree, 0)]
    while waiting:
        part, level = waiting.pop()
        if isinstance(part, tuple):
            counted = bool(part) and part[0] in (
                "query", "set", "values", "select", "table", "sub", "joined", "lit", "name", "op", "in", "scalar",
                "exists", "case", "call")
            below.append(level + counted)
            waiting.extend([(inner, level + counted) for inner in part])
    return max(below)


def counted(tree):
    """How many tuples a tree has of those that are counted."""
    many = 0
    waiting = [tree]
    while waiting:
        part = waiting.pop()
        if isinstance(part, tuple):
            many += bool(part) and part[0] in ("query", "select", "lit", "name", "op", "case")
            waiting.extend(part)
    return many


class NestedThingsTest(unittest.TestCase):
    def check_good(self, text):
        self.assertEqual(outcome(parse, text)[0], "query", text)

    def check_bad(self, text, at):
        self.assertEqual(outcome(parse, text), ("BadText", at), text)

    def test_twelve_and_thirteen_of_each(self):
        for name, (begin, end, at) in COUNTED.items():
            with self.subTest(name):
                many = 5 if name == "sub" else 11
                self.check_good("SELECT " + begin * many + "1" + end * many)
                more = many + 1
                text = "SELECT " + begin * more + "1" + end * more
                if name == "sub":
                    # Each of these is two; the second one of the last is one too many.
                    self.check_bad(text, 7 + len(begin) * many + 23)
                else:
                    self.check_bad(text, 7 + len(begin) * many + at)

    def test_not(self):
        self.check_good("SELECT " + "NOT " * 11 + "1")
        self.check_bad("SELECT " + "NOT " * 12 + "1", 7 + 44)

    def test_queries_in_brackets(self):
        self.check_good("(" * 11 + "SELECT 1" + ")" * 11)
        self.check_bad("(" * 12 + "SELECT 1" + ")" * 12, 12)
        self.check_good("SELECT 1 FROM " + "(" * 11 + "SELECT 1" + ")" * 11 + " x")
        self.check_bad("SELECT 1 FROM " + "(" * 12 + "SELECT 1" + ")" * 12 + " x", 26)
        self.check_good("WITH x AS (" * 11 + "SELECT 1" + ") SELECT 1" * 11)
        self.check_bad("WITH x AS (" * 12 + "SELECT 1" + ") SELECT 1" * 12, 132)

    def test_pairs_mixed(self):
        for first, second in itertools.product(COUNTED, COUNTED):
            if "sub" in (first, second) or (first, second) == ("minus", "in"):
                continue
            begin, end, _ = COUNTED[first]
            other, close, at = COUNTED[second]
            text = begin * 10 + other + "1" + close + end * 10
            with self.subTest(text):
                self.check_good("SELECT " + text)
                text = begin * 11 + other + "1" + close + end * 11
                self.check_bad("SELECT " + text, 7 + len(begin) * 11 + at)

    def test_what_is_not_counted(self):
        self.check_good("SELECT " + "(" * 11 + "a NOT IN (1) AND b IS NOT NULL AND c NOT LIKE d AND e - f" + ")" * 11)
        self.check_good("SELECT " + "f(" * 11 + "a NOT BETWEEN 1 AND 2" + ")" * 11)
        self.check_good("SELECT " + "a IN (" * 20 + "1" + ")" * 20)
        self.check_good("SELECT " + "(" * 10 + "a IN (SELECT 1)" + ")" * 10)
        self.check_bad("SELECT " + "(" * 11 + "a IN (SELECT 1)" + ")" * 11, 24)
        self.check_good("SELECT -1, (-1), -(1)" + " - (1)" * 20)

    def test_over_is_a_part_of_its_call(self):
        self.check_good("SELECT " + "f(" * 10 + "f(1) OVER (PARTITION BY a, b ORDER BY c)" + ")" * 10)
        self.check_bad("SELECT " + "f(" * 10 + "f(1) OVER (PARTITION BY a, g(1))" + ")" * 10, 7 + 20 + 27)
        self.check_good("SELECT f(1) OVER (ORDER BY " + "(" * 10 + "a" + ")" * 10 + ")")
        self.check_bad("SELECT f(1) OVER (ORDER BY " + "(" * 11 + "a" + ")" * 11 + ")", 27 + 10)

    def test_what_has_ended_is_nested_no_more(self):
        """Neither more nor less may be nested behind it."""
        for name, (begin, end, _) in COUNTED.items():
            for before in (begin + "1" + end, begin + begin + "1" + end + end):
                for joined in (" OR ", ", "):
                    head = "SELECT " + (before + joined) * 13
                    with self.subTest(head):
                        self.check_good(head + "(" * 11 + "1" + ")" * 11)
                        self.check_bad(head + "(" * 12 + "1" + ")" * 12, len(head) + 11)
        head = "SELECT " + "NOT 1 AND " * 13
        self.check_good(head + "(" * 11 + "1" + ")" * 11)
        self.check_bad(head + "(" * 12 + "1" + ")" * 12, len(head) + 11)
        head = "(SELECT 1) UNION " * 13 + "SELECT "
        self.check_good(head + "(" * 11 + "1" + ")" * 11)
        self.check_bad(head + "(" * 12 + "1" + ")" * 12, len(head) + 11)
        head = "WITH " + ", ".join(["x AS (SELECT 1)"] * 13) + " SELECT "
        self.check_good(head + "(" * 11 + "1" + ")" * 11)
        self.check_bad(head + "(" * 12 + "1" + ")" * 12, len(head) + 11)

    def test_what_stands_side_by_side(self):
        deep = "(" * 11 + "1" + ")" * 11
        self.check_good(f"SELECT {deep} + {deep}, {deep} FROM t WHERE {deep} GROUP BY {deep} ORDER BY {deep}")

    def test_the_name_of_a_call_is_no_mistake_alone(self):
        self.check_good("SELECT " + "(" * 11 + "f" + ")" * 11)
        self.check_bad("SELECT " + "(" * 11 + "f(1)" + ")" * 11, 18)
        self.check_bad("SELECT " + "(" * 11 + "1 + f (1)" + ")" * 11, 22)

    def test_brackets_at_the_end(self):
        self.check_bad("SELECT " + "(" * 12, 18)
        self.check_bad("SELECT " + "(" * 11, 18)
        self.check_bad("SELECT " + "(" * 11 + "(SELECT", 19)

    def test_a_mistake_further_on(self):
        self.check_bad("SELECT " + "(" * 13 + ") ; A", 18)
        self.check_bad("SELECT " + "(" * 12 + "1" + ")" * 11 + " 'a", 18)
        self.check_bad("SELECT ; " + "(" * 13, 7)
        self.check_bad("SELECT " + "(" * 5 + " , " + "(" * 13, 13)


class TreesTest(unittest.TestCase):
    def chain(self, many):
        return "SELECT " + "+".join(["1"] * many)

    def test_sixty_levels(self):
        self.assertEqual(levels(parse(self.chain(58))), 60)
        self.assertEqual(outcome(parse, self.chain(59)), "TooMuch")
        self.assertEqual(outcome(parse, self.chain(1400)), "TooMuch")

    def test_the_edge_of_each_sort(self):
        """The greatest number that is taken has 60 levels."""
        for head, piece, tail in [
                ("SELECT 1", " UNION SELECT 1", ""), ("SELECT 1 FROM t", " CROSS JOIN u", ""), ("SELECT a IN (1", ", 2", ")"),
                ("SELECT (SELECT 1", "+1", ")"), ("SELECT f() OVER (ORDER BY 1", "+1", ")"), ("SELECT -1", "+1", ""),
                ("SELECT f() OVER (PARTITION BY 1", "+1", ")"), ("SELECT 1 FROM (SELECT 1", "+1", ") x"),
                ("SELECT EXISTS (SELECT 1", "+1", ")"), ("SELECT 1 IN (SELECT 1", "+1", ")"), ("VALUES (1, 2", "*3", ")"),
                ("SELECT CASE WHEN 1 THEN 1", "+1", " END"), ("SELECT CASE WHEN 1", "+1", " THEN 1 END"),
                ("SELECT CASE WHEN 1 THEN 1 ELSE 1", "+1", " END"), ("SELECT 1 WHERE a", " AND b", ""),
                ("SELECT f(1", "*2", ")"), ("WITH x AS (SELECT 1", "+1", ") SELECT 1"), ("SELECT 1 ORDER BY a", " OR b", ""),
                ("SELECT 1 FROM t JOIN u ON a", "-1", ""), ("SELECT 1 FROM t JOIN (SELECT 1", "+1", ") x ON a"),
                ("SELECT 1 IN (SELECT 1 WHERE 1", "+1", ")"), ("SELECT 1", "+1", " IN (SELECT 1)"), ("SELECT 1 GROUP BY 1", "+1", ""), ("SELECT 1 HAVING 1", "+1", "")]:
            taken = [many for many in range(62) if outcome(parse, head + piece * many + tail) != "TooMuch"]
            self.assertEqual(taken, list(range(len(taken))), head)
            self.assertEqual(levels(parse(head + piece * taken[-1] + tail)), 60, head)

    def test_tuples(self):
        # Each BETWEEN doubles what stands before it: 7, 19, 43, .. tuples.
        def doubled(many):
            return "(" * (many - 1) + "1" + " BETWEEN 1 AND 1)" * (many - 1) + " BETWEEN 1 AND 1"

        self.assertEqual([counted(expr_tree(doubled(many))) for many in (1, 2, 9)], [7, 19, 3067])
        text = "SELECT " + ", ".join([doubled(9), doubled(8), doubled(6), doubled(2), "1", "1"])
        self.assertEqual(counted(parse(text)), 5000)
        self.assertEqual(outcome(parse, text + ", 1"), "TooMuch")
        self.assertEqual(outcome(parse, text + ", 1 1"), ("BadText", len(text) + 4))
        # What stands for all columns, and the names of tables and outs, are none.
        self.assertEqual(outcome(parse, text.replace("SELECT ", "SELECT t.*, ") + " AS a")[0], "query")

    def test_very_many_tuples(self):
        text = "SELECT " + "(" * 11 + "a" + " IN (1,2,3,4,5,6,7,8,9))" * 11
        self.assertEqual(outcome(parse, text), "TooMuch")
        self.assertEqual(outcome(parse, text + " )"), ("BadText", len(text) + 1))

    def test_mistakes_go_before_trees(self):
        self.assertEqual(outcome(parse, self.chain(100) + " 1"), ("BadText", len(self.chain(100)) + 1))
        self.assertEqual(outcome(parse, self.chain(100) + " FROM"), ("BadText", len(self.chain(100)) + 5))
        self.assertEqual(outcome(parse, self.chain(100) + ", " + "(" * 13), ("BadText", len(self.chain(100)) + 13))
        self.assertEqual(outcome(parse, "SELECT ;" + self.chain(100)), ("BadText", 7))


class ListsTest(unittest.TestCase):
    def text(self, many, inside="1"):
        return "SELECT " + "a IN (" * many + inside + ")" * many

    def test_sixty_lists_are_read(self):
        # The tree is too deep all the same; a mistake behind is told first.
        self.assertEqual(outcome(parse, self.text(57))[0], "query")
        self.assertEqual(outcome(parse, self.text(58)), "TooMuch")
        self.assertEqual(outcome(parse, self.text(60)), "TooMuch")
        self.assertEqual(outcome(parse, self.text(60) + " )"), ("BadText", len(self.text(60)) + 1))
        self.assertEqual(outcome(parse, self.text(60, "")), ("BadText", 7 + 360))

    def test_more_are_refused_at_once(self):
        self.assertEqual(outcome(parse, self.text(61)), "TooMuch")
        self.assertEqual(outcome(parse, self.text(61) + " )"), "TooMuch")
        self.assertEqual(outcome(parse, self.text(61, "")), "TooMuch")
        self.assertEqual(outcome(parse, self.text(61, "'")), "TooMuch")
        self.assertEqual(outcome(parse, self.text(300) + " ;"), "TooMuch")

    def test_a_mistake_further_left_goes_first(self):
        self.assertEqual(outcome(parse, "SELECT 1 1, " + self.text(61)[7:]), ("BadText", 9))
        self.assertEqual(outcome(parse, "SELECT ; " + self.text(61)[7:]), ("BadText", 7))

    def test_lists_that_have_ended_are_nested_no_more(self):
        head = "SELECT a IN (1) OR a IN (2, 3), "
        self.assertEqual(outcome(parse, head + self.text(60)[7:] + " )"), ("BadText", len(head + self.text(60)[7:]) + 1))
        self.assertEqual(outcome(parse, head + self.text(61)[7:] + " )"), "TooMuch")

    def test_lists_side_by_side(self):
        text = "SELECT " + ", ".join(["a IN (1)"] * 61)
        self.assertEqual(outcome(parse, text)[0], "query")
        self.assertEqual(outcome(parse, "SELECT " + "a IN (1) AND " * 61 + "b"), "TooMuch")
        self.assertEqual(outcome(parse, "SELECT " + "a IN (1) AND " * 61 + "b b"), ("BadText", 7 + 61 * 13 + 2))


class LengthTest(unittest.TestCase):
    def test_three_thousand_signs(self):
        text = "SELECT 1" + " " * 2992
        self.assertEqual(len(text), 3000)
        self.assertEqual(outcome(parse, text)[0], "query")
        self.assertEqual(outcome(parse, text + " "), "TooMuch")
        self.assertEqual(outcome(parse, "\n" + text), "TooMuch")

    def test_goes_before_everything(self):
        self.assertEqual(outcome(parse, ";" * 3000), ("BadText", 0))
        self.assertEqual(outcome(parse, ";" * 3001), "TooMuch")
        self.assertEqual(outcome(parse, " " * 3000), ("BadText", 3000))
        self.assertEqual(outcome(parse, " " * 3001), "TooMuch")

    def test_the_class(self):
        with self.assertRaises(TooMuch) as told:
            parse(" " * 3001)
        self.assertIs(type(told.exception), TooMuch)


if __name__ == "__main__":
    unittest.main()
