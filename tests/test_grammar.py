"""The grammar and the tree of a query ([4.3], [4.5])."""

import random
import re
import unittest

from peristyle.errors import BadText
from peristyle.grammar import parse
from tests.earley import chance, first_misfit, sort_of
from tests.trees import expr_tree, outcome

A = ("name", None, "a", 0)
ONE = ("query", (), ("select", False, ((("lit", 1, 7), None),), (), None, None, None, 0), (), None, 0, 0)


def op(name, *args):
    return ("op", name, args[:-1], args[-1])


def lit(value, place):
    return ("lit", value, place)


def name(text, place):
    return ("name", None, text, place)


def one_at(place):
    """The tree of SELECT 1 that begins at a place."""
    return ("query", (), ("select", False, ((lit(1, place + 7), None),), (), None, None, None, place), (), None, 0,
            place)


class ExpressionsTest(unittest.TestCase):
    def check(self, text, tree):
        self.assertEqual(expr_tree(text), tree)
        self.assertEqual(repr(expr_tree(text)), repr(tree))

    def test_literals_and_names(self):
        self.check("12", lit(12, 0))
        self.check("'a''b'", lit("a'b", 0))
        self.check("true", lit(True, 0))
        self.check("False", lit(False, 0))
        self.check("NULL", lit(None, 0))
        self.check("a", A)
        self.check("t.a", ("name", "t", "a", 0))
        self.check("t . a", ("name", "t", "a", 0))

    def test_signs(self):
        signs = {"+": "add", "-": "sub", "*": "mul", "/": "div", "=": "eq", "<>": "ne", "<": "lt", "<=": "le",
                 ">": "gt", ">=": "ge", "||": "cat"}
        for sign, told in signs.items():
            self.check(f"a {sign} 1", op(told, A, lit(1, 3 + len(sign)), 0))
        self.check("a AND b", op("and", A, name("b", 6), 0))
        self.check("a OR b", op("or", A, name("b", 5), 0))
        self.check("NOT a", op("not", name("a", 4), 0))
        self.check("a LIKE 'b'", op("like", A, lit("b", 7), 0))
        self.check("- a", op("neg", name("a", 2), 0))
        self.check("--5", op("neg", op("neg", lit(5, 2), 1), 0))
        self.check("a - -5", op("sub", A, op("neg", lit(5, 5), 4), 0))

    def test_how_tightly_signs_bind(self):
        a, b, c = A, name("b", 4), name("c", 8)
        self.check("a + b - c", op("sub", op("add", a, b, 0), c, 0))
        self.check("a + b * c", op("add", a, op("mul", b, c, 4), 0))
        self.check("a * b + c", op("add", op("mul", a, b, 0), c, 0))
        self.check("a / b * c", op("mul", op("div", a, b, 0), c, 0))
        self.check("-a * b", op("mul", op("neg", name("a", 1), 0), name("b", 5), 0))
        self.check("a * -b", op("mul", a, op("neg", name("b", 5), 4), 0))
        self.check("a = b + c", op("eq", a, op("add", b, c, 4), 0))
        self.check("a + b = c", op("eq", op("add", a, b, 0), c, 0))
        self.check("a OR b AND c", op("or", a, op("and", name("b", 5), name("c", 11), 5), 0))
        self.check("a AND b OR c", op("or", op("and", a, name("b", 6), 0), name("c", 11), 0))
        self.check("NOT a = b", op("not", op("eq", name("a", 4), name("b", 8), 4), 0))
        self.check("NOT a AND b", op("and", op("not", name("a", 4), 0), name("b", 10), 0))
        self.check("NOT NOT a", op("not", op("not", name("a", 8), 4), 0))
        self.check("a AND NOT b", op("and", a, op("not", name("b", 10), 6), 0))
        self.check("a||b + c", op("add", op("cat", a, name("b", 3), 0), name("c", 7), 0))

    def test_chains_lean_to_the_left(self):
        self.check("1-2-3-4", op("sub", op("sub", op("sub", lit(1, 0), lit(2, 2), 0), lit(3, 4), 0), lit(4, 6), 0))
        self.check("8/4/2", op("div", op("div", lit(8, 0), lit(4, 2), 0), lit(2, 4), 0))
        self.check("a OR b OR c", op("or", op("or", A, name("b", 5), 0), name("c", 10), 0))

    def test_brackets(self):
        self.check("(a)", name("a", 1))
        self.check("((a))", name("a", 2))
        self.check("(a + 1) * 2", op("mul", op("add", name("a", 1), lit(1, 5), 1), lit(2, 10), 1))
        self.check("a - (b - c)", op("sub", A, op("sub", name("b", 5), name("c", 9), 5), 0))
        self.check("-(1)", op("neg", lit(1, 2), 0))
        self.check("(a = b) = c", op("eq", op("eq", name("a", 1), name("b", 5), 1), name("c", 10), 1))
        self.check("(a) IS NULL", op("isnull", name("a", 1), 1))
        self.check("(a IS NULL) + 1", op("add", op("isnull", name("a", 1), 1), lit(1, 14), 1))

    def test_is(self):
        self.check("a IS NULL", op("isnull", A, 0))
        self.check("a IS NOT NULL", op("not", op("isnull", A, 0), 0))
        self.check("a  IS TRUE", op("same", A, lit(True, 3), 0))
        self.check("a IS FALSE", op("same", A, lit(False, 2), 0))
        self.check("a IS NOT TRUE", op("not", op("same", A, lit(True, 2), 0), 0))
        self.check("a+1 IS NOT FALSE", op("not", op("same", op("add", A, lit(1, 2), 0), lit(False, 4), 0), 0))

    def test_between(self):
        tree = op("and", op("ge", A, lit(1, 10), 0), op("le", A, lit(2, 16), 0), 0)
        self.check("a BETWEEN 1 AND 2", tree)
        b = name("b", 22)
        self.check("a BETWEEN 1 AND 2 AND b", op("and", tree, b, 0))
        b = name("b", 21)
        self.check("a BETWEEN 1 AND 2 OR b", op("or", tree, b, 0))
        c = op("add", lit(2, 20), lit(3, 24), 20)
        self.check("a NOT BETWEEN 1 AND 2 + 3", op("not", op("and", op("ge", A, lit(1, 14), 0), op("le", A, c, 0), 0), 0))

    def test_like(self):
        self.check("a NOT LIKE b", op("not", op("like", A, name("b", 11), 0), 0))
        self.check("a||b LIKE c||d", op("like", op("cat", A, name("b", 3), 0), op("cat", name("c", 10), name("d", 13), 10), 0))

    def test_in(self):
        first, second, third = [op("eq", A, name(text, place), 0) for text, place in (("b", 6), ("c", 9), ("d", 12))]
        self.check("a IN (b)", first)
        self.check("a IN (b, c)", op("or", first, second, 0))
        self.check("a IN (b, c, d)", op("or", op("or", first, second, 0), third, 0))
        self.check("a NOT IN (b)", op("not", op("eq", A, name("b", 10), 0), 0))
        self.check("a IN (b OR c)", op("eq", A, op("or", name("b", 6), name("c", 11), 6), 0))
        self.check("a IN (SELECT 1)", ("in", A, one_at(6), 0))
        self.check("a NOT IN (SELECT 1)", op("not", ("in", A, one_at(10), 0), 0))
        self.check("a IN ((SELECT 1))", op("eq", A, ("scalar", one_at(7), 6), 0))
        self.check("(a) IN (1)", op("eq", name("a", 1), lit(1, 8), 1))
        rows = ("query", (), ("values", ((lit(1, 14),), (lit(2, 19),)), 6), (), None, 0, 6)
        self.check("a IN (VALUES (1), (2))", ("in", A, rows, 0))

    def test_nested_queries(self):
        self.check("(SELECT 1)", ("scalar", one_at(1), 0))
        self.check("((SELECT 1))", ("scalar", one_at(2), 1))
        self.check("EXISTS (SELECT 1)", ("exists", one_at(8), 0))
        inner = ("query", (), one_at(9), (), None, 0, 8)
        self.check("EXISTS ((SELECT 1))", ("exists", inner, 0))
        self.check("NOT EXISTS (SELECT 1)", op("not", ("exists", one_at(12), 4), 0))
        with_one = ("query", (("x", one_at(12), 6),), one_at(22)[2], (), None, 0, 1)
        self.check("(WITH x AS (SELECT 1) SELECT 1)", ("scalar", with_one, 0))

    def test_case(self):
        self.check("CASE WHEN a THEN 1 END", ("case", ((name("a", 10), lit(1, 17)),), lit(None, 19), 0))
        self.check("CASE WHEN a THEN 1 ELSE 2 END", ("case", ((name("a", 10), lit(1, 17)),), lit(2, 24), 0))
        self.check("CASE WHEN a OR b THEN 1 WHEN c THEN 2 ELSE NULL END", ("case", (
            (op("or", name("a", 10), name("b", 15), 10), lit(1, 22)), (name("c", 29), lit(2, 36))), lit(None, 43), 0))

    def test_functions(self):
        for text, many in {"mod": 2, "abs": 1, "size": 1, "upper": 1, "lower": 1, "part": 3, "number": 1, "words": 1,
                           "coalesce": 2, "nullif": 2, "most": 2, "least": 2}.items():
            for given in range(5):
                args = tuple([lit(1, len(text) + 1 + 2 * index) for index in range(given)])
                written = f"{text}({','.join('1' * given)})"
                if given == many:
                    self.check(written, ("op", text, args, 0))
                    self.check(written + " OVER ()", ("call", text, False, args, False, ((), (), None), 0))
                    self.check(f"{text}(DISTINCT {','.join('1' * given)})"[:-1] + ")", (
                        "call", text, True, tuple([lit(1, arg[2] + 9) for arg in args]), False, None, 0))
                else:
                    self.check(written, ("call", text, False, args, False, None, 0))
            self.check(f"{text}(*)", ("call", text, False, (), True, None, 0))

    def test_operators_without_a_call(self):
        for text in "eq ne lt le gt ge add sub mul div cat neg isnull same".split():
            self.check(f"{text}(1, 2)", ("call", text, False, (lit(1, len(text) + 1), lit(2, len(text) + 4)), False, None, 0))
            self.check(f"{text}(1)", ("call", text, False, (lit(1, len(text) + 1),), False, None, 0))
            self.check(text, name(text, 0))

    def test_calls(self):
        self.check("f()", ("call", "f", False, (), False, None, 0))
        self.check("count(*)", ("call", "count", False, (), True, None, 0))
        self.check("sum(DISTINCT a)", ("call", "sum", True, (name("a", 13),), False, None, 0))
        self.check("sum(a, b)", ("call", "sum", False, (name("a", 4), name("b", 7)), False, None, 0))
        self.check("rank() OVER ()", ("call", "rank", False, (), False, ((), (), None), 0))

    def test_windows(self):
        self.check("f(a) OVER (PARTITION BY b, c)", (
            "call", "f", False, (name("a", 2),), False, ((name("b", 24), name("c", 27)), (), None), 0))
        self.check("f() OVER (ORDER BY a DESC, b)", ("call", "f", False, (), False, (
            (), ((name("a", 19), True, True), (name("b", 27), False, False)), None), 0))
        self.check("f() OVER (PARTITION BY a ORDER BY b ROWS BETWEEN CURRENT ROW AND 3 FOLLOWING)", (
            "call", "f", False, (), False, ((name("a", 23),), ((name("b", 34), False, False),), (("here", 0), ("after", 3))), 0))

    def test_edges(self):
        edges = {"UNBOUNDED PRECEDING": ("start", 0), "7 PRECEDING": ("before", 7), "CURRENT ROW": ("here", 0),
                 "2000 FOLLOWING": ("after", 2000), "UNBOUNDED FOLLOWING": ("end", 0), "0 PRECEDING": ("before", 0)}
        for first, one in edges.items():
            for second, other in edges.items():
                self.check(f"f() OVER (ROWS BETWEEN {first} AND {second})", (
                    "call", "f", False, (), False, ((), (), (one, other)), 0))

    def test_pairs_that_give_one_tree(self):
        for first, second in [("a IS NOT NULL", "NOT(a IS NULL)"), ("a<>1", "a <> 1"), ("a IN(1)", "a = 1")]:
            one, other = [repr(expr_tree(text)) for text in (first, second)]
            self.assertEqual([sign for sign in one if not sign.isdigit()], [sign for sign in other if not sign.isdigit()])


class QueriesTest(unittest.TestCase):
    def check(self, text, tree):
        self.assertEqual(parse(text), tree)
        self.assertEqual(repr(parse(text)), repr(tree))
        self.assertEqual(repr(parse("\n " + text.replace(" ", " \n") + " \n")).count("("), repr(tree).count("("))

    def select(self, text, **parts):
        """Look at a select: of its parts, those that are not told are empty."""
        told = {"distinct": False, "outs": ((lit(1, 7), None),), "sources": (), "where": None, "groups": None,
                "having": None}
        told.update(parts)
        body = ("select", *told.values(), 0)
        self.check(text, ("query", (), body, (), None, 0, 0))

    def test_the_least_query(self):
        self.check("SELECT 1", ONE)
        self.check("select 1", ONE)
        self.check("  SELECT 1", one_at(2))

    def test_outs(self):
        self.select("SELECT *", outs=(("all", 7),))
        self.select("SELECT DISTINCT *", distinct=True, outs=(("all", 16),))
        self.select("SELECT t.*", outs=(("all", "t", 7),))
        self.select("SELECT a, t.*, 1 AS b", outs=((name("a", 7), None), ("all", "t", 10), (lit(1, 15), "b")))
        self.select("SELECT DISTINCT a", distinct=True, outs=((name("a", 16), None),))

    def test_sources(self):
        table = ("table", "t", "t", 14)
        self.select("SELECT 1 FROM t", sources=(table,))
        self.select("SELECT 1 FROM t x", sources=(("table", "t", "x", 14),))
        self.select("SELECT 1 FROM t AS x", sources=(("table", "t", "x", 14),))
        self.select("SELECT 1 FROM t,u", sources=(table, ("table", "u", "u", 16)))
        self.select("SELECT 1 FROM (SELECT 1) x", sources=(("sub", one_at(15), "x", 14),))
        self.select("SELECT 1 FROM (SELECT 1) AS x", sources=(("sub", one_at(15), "x", 14),))
        inner = ("query", (), one_at(16), (), None, 0, 15)
        self.select("SELECT 1 FROM ((SELECT 1)) x", sources=(("sub", inner, "x", 14),))

    def test_joins(self):
        table = ("table", "t", "t", 14)
        self.select("SELECT 1 FROM t CROSS JOIN u", sources=(("joined", "cross", table, ("table", "u", "u", 27), None, 14),))
        for word, kind in (("", "inner"), ("INNER ", "inner"), ("LEFT ", "left"), ("RIGHT ", "right"), ("FULL ", "full")):
            by = len(word)
            self.select(f"SELECT 1 FROM t {word}JOIN u ON a", sources=(
                ("joined", kind, table, ("table", "u", "u", 21 + by), name("a", 26 + by), 14),))
        chain = ("joined", "cross", ("joined", "left", table, ("table", "u", "x", 26), name("a", 33), 14),
                 ("table", "w", "w", 46), None, 14)
        self.select("SELECT 1 FROM t LEFT JOIN u x ON a CROSS JOIN w, v", sources=(chain, ("table", "v", "v", 49)))

    def test_the_other_parts_of_a_select(self):
        self.select("SELECT 1 WHERE a", where=name("a", 15))
        self.select("SELECT 1 GROUP BY a, 2", groups=(name("a", 18), lit(2, 21)))
        self.select("SELECT 1 HAVING a", having=name("a", 16))
        self.select("SELECT 1 FROM t WHERE a GROUP BY b HAVING c", sources=(("table", "t", "t", 14),),
                    where=name("a", 22), groups=(name("b", 33),), having=name("c", 42))

    def test_values(self):
        self.check("VALUES (1)", ("query", (), ("values", ((lit(1, 8),),), 0), (), None, 0, 0))
        self.check("VALUES (1, a), (2)", ("query", (), (
            "values", ((lit(1, 8), name("a", 11)), (lit(2, 16),)), 0), (), None, 0, 0))

    def test_sets(self):
        one, two, three = [one_at(place)[2] for place in (0, 15, 30)]
        self.check("SELECT 1 UNION SELECT 1", ("query", (), ("set", "union", False, one, two, 0), (), None, 0, 0))
        for word, told in (("UNION ALL", "union"), ("EXCEPT ALL", "except"), ("INTERSECT ALL", "intersect")):
            right = one_at(10 + len(word))[2]
            self.check(f"SELECT 1 {word} SELECT 1", ("query", (), ("set", told, True, one, right, 0), (), None, 0, 0))
        self.check("SELECT 1 UNION SELECT 1 UNION SELECT 1", ("query", (), (
            "set", "union", False, ("set", "union", False, one, two, 0), three, 0), (), None, 0, 0))
        meet = ("set", "intersect", False, two, one_at(34)[2], 15)
        self.check("SELECT 1 UNION SELECT 1 INTERSECT SELECT 1", ("query", (), (
            "set", "union", False, one, meet, 0), (), None, 0, 0))
        meet = ("set", "intersect", False, one, one_at(19)[2], 0)
        self.check("SELECT 1 INTERSECT SELECT 1 EXCEPT SELECT 1", ("query", (), (
            "set", "except", False, meet, one_at(35)[2], 0), (), None, 0, 0))

    def test_queries_in_brackets(self):
        self.check("(SELECT 1)", ("query", (), one_at(1), (), None, 0, 0))
        self.check("((SELECT 1))", ("query", (), ("query", (), one_at(2), (), None, 0, 1), (), None, 0, 0))
        self.check("(SELECT 1) UNION SELECT 1", ("query", (), (
            "set", "union", False, one_at(1), one_at(17)[2], 0), (), None, 0, 0))
        self.check("SELECT 1 UNION (SELECT 1)", ("query", (), (
            "set", "union", False, ONE[2], one_at(16), 0), (), None, 0, 0))
        limited = one_at(1)[:4] + (3, 0, 1)
        self.check("(SELECT 1 LIMIT 3) LIMIT 4", ("query", (), limited, (), 4, 0, 0))

    def test_with(self):
        self.check("WITH x AS (SELECT 1) SELECT 1", ("query", (("x", one_at(11), 5),), one_at(21)[2], (), None, 0, 0))
        self.check("WITH x AS (SELECT 1), y AS ((SELECT 1)) SELECT 1", ("query", (
            ("x", one_at(11), 5), ("y", ("query", (), one_at(29), (), None, 0, 28), 22)), one_at(40)[2], (), None, 0, 0))

    def test_order(self):
        def item(text, desc, first):
            order = ((name("a", 18), desc, first),)
            self.check("SELECT 1 ORDER BY a" + text, ("query", (), ONE[2], order, None, 0, 0))

        item("", False, False)
        item(" ASC", False, False)
        item(" DESC", True, True)
        item(" NULLS FIRST", False, True)
        item(" ASC NULLS FIRST", False, True)
        item(" ASC NULLS LAST", False, False)
        item(" DESC NULLS FIRST", True, True)
        item(" DESC NULLS LAST", True, False)
        self.check("SELECT 1 ORDER BY 1, a DESC", ("query", (), ONE[2], (
            (lit(1, 18), False, False), (name("a", 21), True, True)), None, 0, 0))

    def test_limit_and_offset(self):
        self.check("SELECT 1 LIMIT 0", ONE[:4] + (0, 0, 0))
        self.check("SELECT 1 LIMIT 2000 OFFSET 2000", ONE[:4] + (2000, 2000, 0))
        self.check("SELECT 1 OFFSET 5", ONE[:4] + (None, 5, 0))
        self.check("SELECT 1 OFFSET 0", ONE)
        self.assertEqual(outcome(parse, "SELECT 1 LIMIT 2001"), ("BadText", 15))
        self.assertEqual(outcome(parse, "SELECT 1 OFFSET 2001"), ("BadText", 16))
        self.assertEqual(outcome(parse, "SELECT f() OVER (ROWS BETWEEN 2001 PRECEDING AND CURRENT ROW)"), ("BadText", 30))
        self.assertEqual(outcome(parse, "SELECT f() OVER (ROWS BETWEEN CURRENT ROW AND 2001 FOLLOWING)"), ("BadText", 46))
        self.assertEqual(parse("SELECT 2001")[2][2], ((lit(2001, 7), None),))

    def test_what_begins_with_a_bracket(self):
        """A query in core, base, EXISTS and WITH; an expression in atom and IN unless a word says otherwise."""
        self.assertEqual(outcome(parse, "(1)"), ("BadText", 1))
        self.assertEqual(outcome(parse, "(a)"), ("BadText", 1))
        self.assertEqual(outcome(parse, "SELECT 1 UNION (1)"), ("BadText", 16))
        self.assertEqual(outcome(parse, "SELECT EXISTS (1)"), ("BadText", 15))
        self.assertEqual(outcome(parse, "SELECT 1 FROM (t)"), ("BadText", 15))
        self.assertEqual(outcome(parse, "WITH x AS (1) SELECT 1"), ("BadText", 11))
        self.assertEqual(outcome(parse, "SELECT ((SELECT 1) UNION SELECT 1)"), ("BadText", 19))
        self.assertEqual(outcome(parse, "SELECT a IN ((SELECT 1) UNION SELECT 1)"), ("BadText", 24))
        self.assertEqual(outcome(parse, "SELECT EXISTS ((SELECT 1) UNION SELECT 1)")[0], "query")
        self.assertEqual(outcome(parse, "WITH x AS ((SELECT 1) UNION SELECT 1) SELECT 1")[0], "query")
        self.assertEqual(outcome(parse, "SELECT 1 FROM ((SELECT 1) UNION SELECT 1) x")[0], "query")
        self.assertEqual(outcome(parse, "((SELECT 1) UNION SELECT 1) EXCEPT SELECT 1")[0], "query")
        self.assertEqual(expr_tree("((SELECT 1) + 1)")[1], "add")
        self.assertEqual(expr_tree("a IN ((SELECT 1), 2)")[1], "or")


class LettersTest(unittest.TestCase):
    def test_reserved_words_in_all_letters(self):
        for text in ["SELECT DISTINCT a.* FROM t AS x LEFT JOIN u ON NOT a IS NOT TRUE WHERE a IN (SELECT 1) OR b NOT LIKE c",
                     "SELECT 1 UNION ALL SELECT 2 EXCEPT VALUES (1) INTERSECT ALL (SELECT 3) ORDER BY a DESC NULLS LAST, b NULLS FIRST",
                     "SELECT f() OVER (PARTITION BY a ORDER BY b ASC ROWS BETWEEN UNBOUNDED PRECEDING AND CURRENT ROW)",
                     "SELECT f() OVER (ROWS BETWEEN 1 PRECEDING AND UNBOUNDED FOLLOWING), (SELECT 1), (VALUES (1)), (WITH x AS (SELECT 1) "
                     "SELECT 2)", "SELECT CASE WHEN a BETWEEN 1 AND 2 THEN NULL ELSE FALSE END FROM t CROSS JOIN u, v INNER JOIN w ON TRUE",
                     "SELECT EXISTS (SELECT 1) GROUP BY a HAVING b LIMIT 1 OFFSET 2", "SELECT a FROM t RIGHT JOIN u ON a FULL JOIN v ON b"]:
            self.assertEqual(parse(text.lower()), parse(text))
            self.assertEqual(parse(re.sub("[A-Z]+", lambda word: word[0].title(), text)), parse(text))


class MistakesTest(unittest.TestCase):
    """The place of the first mistake ([4.6])."""

    def check(self, text, at):
        self.assertEqual(outcome(parse, text), ("BadText", at))

    def test_texts_that_end_too_early(self):
        whole = ("WITH x AS (SELECT a AS b FROM t y LEFT JOIN (SELECT 2) z ON NOT a = -1) SELECT DISTINCT sum(a) OVER ("
                 "PARTITION BY b ORDER BY c DESC NULLS LAST ROWS BETWEEN 1 PRECEDING AND CURRENT ROW), CASE WHEN a IN (1, 2"
                 ") THEN 'x' ELSE t.b END FROM t WHERE EXISTS (SELECT 1) AND a IS NOT NULL GROUP BY a HAVING b BETWEEN 1 "
                 "AND 2 UNION ALL VALUES (1), (2) ORDER BY a LIMIT 1 OFFSET 2")
        self.assertEqual(outcome(parse, whole)[0], "query")
        things = whole.replace("(", " ( ").replace(")", " ) ").replace(",", " , ").replace("-1", "- 1").replace(
            "t.b", "t . b").split()
        for many in range(len(things)):
            text = " ".join(things[:many])
            told = first_misfit([sort_of(thing) for thing in things[:many]])
            got = outcome(parse, text)
            if told is None:
                self.assertEqual(got[0], "query", text)
            else:
                self.assertEqual(told, many)
                self.assertEqual(got, ("BadText", len(text)), text)

    def test_the_end(self):
        self.check("", 0)
        self.check("   ", 3)
        self.check("SELECT", 6)
        self.check("SELECT  \n", 9)
        self.check("SELECT 1 FROM", 13)
        self.check("SELECT (1", 9)
        self.check("SELECT a.", 9)

    def test_things_that_may_not_be_there(self):
        for text, at in [("SELECT 1 1", 9), ("SELECT 1 a", 9), ("SELECT , 1", 7), ("SELECT 1,", 9), ("SELECT a b", 9),
                         ("SELECT * , a", 9), ("SELECT a, *", 10), ("SELECT (t.*)", 10), ("SELECT 1 + t.*", 13),
                         ("SELECT t.* AS b", 11), ("SELECT t.*+1", 10), ("SELECT a.1", 9), ("SELECT a.SELECT", 9),
                         ("SELECT f(*, a)", 10), ("SELECT f(* a)", 11), ("SELECT f(*)(*)", 11),
                         ("SELECT f(DISTINCT)", 17), ("SELECT f(DISTINCT *)", 18),
                         ("SELECT f(a,)", 11), ("SELECT f OVER ()", 9), ("SELECT (f()) OVER ()", 13),
                         ("SELECT a = b = c", 13), ("SELECT a < b < c", 13), ("SELECT a IS NULL IS NULL", 17),
                         ("SELECT a IS NULL + 1", 17), ("SELECT a = NOT b", 11), ("SELECT a + NOT b", 11),
                         ("SELECT - NOT b", 9), ("SELECT NOT a + NOT b", 15), ("SELECT a NOT b", 13),
                         ("SELECT a NOT = b", 13), ("SELECT a NOT NULL", 13), ("SELECT a IS 1", 12),
                         ("SELECT a IS NOT NOT NULL", 16), ("SELECT a BETWEEN 1 OR 2", 19),
                         ("SELECT a BETWEEN 1", 18), ("SELECT a BETWEEN NOT 1 AND 2", 17), ("SELECT a IN 1", 12),
                         ("SELECT a IN ()", 13), ("SELECT a IN (1", 14), ("SELECT a LIKE", 13),
                         ("SELECT a BETWEEN 1 AND 2 = b", 25), ("SELECT a IN (1) = b", 16),
                         ("SELECT CASE END", 12), ("SELECT CASE a WHEN 1 THEN 2 END", 12),
                         ("SELECT CASE WHEN a END", 19), ("SELECT CASE WHEN a THEN 1 ELSE END", 31),
                         ("SELECT EXISTS 1", 14), ("SELECT ()", 8), ("SELECT + 1", 7), ("SELECT 1 -", 10),
                         ("SELECT 1 FROM t AS", 18), ("SELECT 1 FROM t x y", 18), ("SELECT 1 FROM t,", 16),
                         ("SELECT 1 FROM (SELECT 1)", 24), ("SELECT 1 FROM (SELECT 1) WHERE a", 25),
                         ("SELECT 1 FROM t JOIN u", 22), ("SELECT 1 FROM t CROSS JOIN u ON a", 29),
                         ("SELECT 1 FROM t LEFT u", 21), ("SELECT 1 FROM t JOIN u JOIN w", 23),
                         ("SELECT 1 FROM t INNER CROSS JOIN u", 22), ("SELECT 1 WHERE", 14),
                         ("SELECT 1 WHERE a FROM t", 17), ("SELECT 1 GROUP a", 15), ("SELECT 1 HAVING a GROUP BY b", 18),
                         ("SELECT 1 ORDER a", 15), ("SELECT 1 ORDER BY a NULLS", 25),
                         ("SELECT 1 ORDER BY a NULLS LAST DESC", 31), ("SELECT 1 ORDER BY a ASC DESC", 24),
                         ("SELECT 1 LIMIT a", 15), ("SELECT 1 LIMIT -1", 15), ("SELECT 1 OFFSET 1 LIMIT 1", 18),
                         ("SELECT 1 LIMIT 1 ORDER BY a", 17), ("SELECT 1 LIMIT 1 UNION SELECT 1", 17),
                         ("SELECT 1 UNION", 14), ("SELECT 1 UNION DISTINCT SELECT 1", 15),
                         ("SELECT 1 UNION WITH x AS (SELECT 1) SELECT 1", 15), ("VALUES 1", 7), ("VALUES ()", 8),
                         ("VALUES (1) (2)", 11), ("VALUES (1),", 11), ("WITH SELECT 1", 5), ("WITH x SELECT 1", 7),
                         ("WITH x AS SELECT 1", 10), ("WITH x AS (SELECT 1)", 20), ("WITH x AS (SELECT 1), SELECT 1", 22),
                         ("1", 0), ("a", 0), (")", 0), ("'a'", 0), ("SELECT 1)", 8), ("(SELECT 1", 9), ("(SELECT 1) a", 11),
                         ("SELECT f() OVER (a)", 17), ("SELECT f() OVER a", 16), ("SELECT f() OVER (ORDER BY a PARTITION BY b)", 28),
                         ("SELECT f() OVER (ROWS CURRENT ROW)", 22), ("SELECT f() OVER (ROWS BETWEEN a AND b)", 30),
                         ("SELECT f() OVER (ROWS BETWEEN CURRENT ROW)", 41), ("SELECT f() OVER (ROWS BETWEEN 1 AND 2)", 32),
                         ("SELECT f() OVER (ROWS BETWEEN UNBOUNDED AND CURRENT ROW)", 40), ("SELECT SELECT", 7)]:
            with self.subTest(text):
                self.check(text, at)

    def test_the_first_of_two_mistakes(self):
        self.check("SELECT 1 1 ; 'a", 9)
        self.check("SELECT ; 1 1", 7)
        self.check("SELECT 1 'a", 9)
        self.check("SELECT 1 + 'a", 11)
        self.check("SELECT 1 + A )", 11)
        self.check("SELECT 1 ) A", 9)
        self.check("SELECT 'a\tb' 1 1", 9)
        self.check("SELECT a. 'x", 10)
        self.check("SELECT t.*; 1", 10)
        self.check("SELECT (; 1", 8)

    def test_like_the_rules(self):
        """Texts by chance, many with a mistake, against the grammar read as plain rules."""
        rng = random.Random(4)
        odd = "( ) a 1 'x' , . * - NOT SELECT AND = IN FROM NULL OVER AS ALL BETWEEN VALUES ORDER BY EXISTS WITH CASE END".split()
        looked_at = 0
        while looked_at < 150:
            things = chance(rng, budget=rng.choice([10, 20, 30]))
            if len(things) > 40:
                continue
            looked_at += 1
            at = rng.randrange(len(things))
            change = rng.randrange(4)
            if change == 1:
                things = things[:at]
            elif change:
                things[at:at + change - 2] = [rng.choice(odd)]
            text = " ".join(things)
            told = first_misfit([sort_of(thing) for thing in things])
            got = outcome(parse, text)
            if told is None:
                self.assertEqual(got[0], "query", text)
            else:
                self.assertEqual(got, ("BadText", len(" ".join(things[:told])) + (0 < told < len(things))), text)

    def test_the_class(self):
        with self.assertRaises(BadText) as told:
            parse("SELECT")
        self.assertIs(type(told.exception), BadText)


if __name__ == "__main__":
    unittest.main()
