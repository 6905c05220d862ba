"""Names, schemas and rows that fit: [3.1]."""

import unittest

from peristyle.errors import BadForm
from peristyle.schema import check_schema, fits

RESERVED = """SELECT DISTINCT FROM WHERE GROUP BY HAVING ORDER LIMIT OFFSET AS JOIN INNER LEFT RIGHT FULL CROSS ON
UNION INTERSECT EXCEPT ALL VALUES WITH AND OR NOT IS NULL TRUE FALSE IN EXISTS BETWEEN LIKE CASE WHEN THEN ELSE END
ASC DESC NULLS FIRST LAST OVER PARTITION ROWS PRECEDING FOLLOWING UNBOUNDED CURRENT ROW""".lower().split()
GOOD_NAMES = ["a", "z", "t1", "a_", "a_b_c", "abc123", "x" * 20, "a" + "_" * 19, "z0123456789", "selects", "sel",
              "selec", "row1", "count", "sum", "rank", "int", "text", "bool", "abs", "name", "t", "number", "words",
              "rank", "dense", "place", "lag", "lead", "every", "some", "a0", "b9", "fault", "none", "nil"]
BAD_NAMES = ["", "_", "_a", "1", "1a", "0", "A", "T", "aB", "Ab", "x" * 21, "x" * 200, " a", "a ", "a b", "a-b", "a.b",
             "a\n", "a$", "a'", "ab" + chr(37), chr(233), "a" + chr(233), "a" + chr(0x663), chr(0x3b1), "a" + chr(0x2b0),
             None, 0, 1, True, b"a", ("a",), ["a"], {}, 1.5]
A = ("a", "int", False)
B = ("b", "text", True)
C = ("c", "bool", False)


class SchemaTest(unittest.TestCase):
    def good(self, schema):
        with self.subTest(good=schema):
            self.assertIsNone(check_schema(schema))

    def bad(self, schema):
        with self.subTest(bad=schema):
            with self.assertRaises(BadForm):
                check_schema(schema)

    def test_good_schemas(self):
        self.good(("t", (A,), ()))
        self.good(("t", (A, B, C), ()))
        self.good(("t", (A, B, C), ((0,),)))
        self.good(("t", (A, B, C), ((2,),)))
        self.good(("t", (A, B, C), ((0, 2),)))
        self.good(("t", (A, B, C), ((0,), (2,), (0, 2))))
        self.good(("t", (B,), ()))
        self.good(("t", (("t", "text", True),), ()))
        for kind in ("int", "text", "bool"):
            for nullable in (True, False):
                self.good(("t", (("a", kind, nullable),), ()))

    def test_names(self):
        for name in GOOD_NAMES:
            self.good((name, (A,), ()))
            self.good(("t", ((name, "int", False),), ()))
        for name in BAD_NAMES:
            self.bad((name, (A,), ()))
            self.bad(("t", ((name, "int", False),), ()))
            self.bad(("t", (A, (name, "text", True)), ((0,),)))

    def test_reserved_words(self):
        self.assertEqual(len(set(RESERVED)), 53)
        for word in RESERVED:
            for name in (word, word.upper(), word.capitalize()):
                self.bad((name, (A,), ()))
                self.bad(("t", (A, (name, "int", False)), ()))
            self.good((word + "_", ((word + "1", "int", True),), ()))

    def test_the_number_of_columns(self):
        many = [("c" + str(i), "int", False) for i in range(13)]
        self.bad(("t", (), ()))
        for number in range(1, 13):
            self.good(("t", tuple(many[:number]), ((number - 1,),)))
        self.bad(("t", tuple(many), ()))

    def test_equal_names_of_columns(self):
        self.bad(("t", (A, A), ()))
        self.bad(("t", (A, ("a", "text", True)), ()))
        self.bad(("t", (A, B, C, ("b", "int", False)), ()))
        self.bad(("t", (B, A, C, ("c", "int", False)), ()))

    def test_kinds(self):
        for kind in ("Int", "INT", "str", "string", "number", "float", "null", "", "any", None, 0, 1, int, ("int",),
                     ["int"], "int ", "inte"):
            self.bad(("t", (("a", kind, False),), ()))

    def test_nullables(self):
        for nullable in (0, 1, None, "", "True", "nullable", (), [], 0.0):
            self.bad(("t", (("a", "int", nullable),), ()))
            self.bad(("t", (A, ("b", "int", nullable)), ((0,),)))

    def test_columns_of_another_form(self):
        for column in ((), ("a",), ("a", "int"), ("a", "int", False, False), ["a", "int", False], "abc", None, 3,
                       {"a": 1, "b": 2, "c": 3}, ("int", "a", False), (False, "int", "a")):
            self.bad(("t", (column,), ()))
            self.bad(("t", (C, column), ()))
        self.bad(("t", [A], ()))
        self.bad(("t", A, ()))
        self.bad(("t", "a", ()))
        self.bad(("t", None, ()))
        self.bad(("t", {A: 1}, ()))
        self.bad(("t", 1, ()))

    def test_schemas_of_another_form(self):
        for schema in ((), ("t",), ("t", (A,)), ("t", (A,), (), ()), ["t", (A,), ()], None, "t", "abc", 0, 3, {},
                       {"t": 1, "u": 2, "v": 3}, ((A,), "t", ()), ("t", (), (A,))):
            self.bad(schema)

    def test_keys_of_another_form(self):
        for keys in ([], [(0,)], None, 0, "", "a", {}, (0,), (0, 1), ([0],), ("0",), (None,), ((0,), [1]), ((0,), None)):
            self.bad(("t", (A, C), keys))

    def test_indexes_in_keys(self):
        self.good(("t", (A, C), ((1,),)))
        for index in (-1, 2, 3, 100, -2, True, False, None, "0", "a", 0.0, 1.0, (0,), [0]):
            self.bad(("t", (A, C), ((index,),)))
            self.bad(("t", (A, C), ((0,), (index,))))
            self.bad(("t", (A, C), ((0, index),)))

    def test_empty_keys(self):
        self.bad(("t", (A, C), ((),)))
        self.bad(("t", (A, C), ((0,), ())))

    def test_keys_that_do_not_rise(self):
        self.bad(("t", (A, C), ((0, 0),)))
        self.bad(("t", (A, C), ((1, 0),)))
        self.bad(("t", (A, C, ("d", "int", False)), ((0, 2, 1),)))
        self.bad(("t", (A, C, ("d", "int", False)), ((0, 1, 1),)))
        self.bad(("t", (A, C, ("d", "int", False)), ((1, 0, 2),)))
        self.bad(("t", (A, C, ("d", "int", False)), ((2, 1, 0),)))
        self.good(("t", (A, C, ("d", "int", False)), ((0, 1, 2),)))

    def test_equal_keys(self):
        self.bad(("t", (A, C), ((0,), (0,))))
        self.bad(("t", (A, C), ((0, 1), (1,), (0, 1))))
        self.good(("t", (A, C), ((0, 1), (1,), (0,))))

    def test_the_number_of_keys(self):
        columns = tuple([("c" + str(i), "int", False) for i in range(6)])
        keys = [(i,) for i in range(6)]
        for many in range(5):
            self.good(("t", columns, tuple(keys[:many])))
        self.bad(("t", columns, tuple(keys[:5])))
        self.bad(("t", columns, tuple(keys)))

    def test_nullable_columns_in_keys(self):
        self.bad(("t", (A, B), ((1,),)))
        self.bad(("t", (A, B), ((0, 1),)))
        self.bad(("t", (A, B, C), ((0,), (0, 2), (1, 2))))
        self.good(("t", (A, B, C), ((0,), (0, 2), (2,))))

    def test_the_schema_stays(self):
        schema = ("t", (A, B, C), ((0,), (0, 2)))
        check_schema(schema)
        self.assertEqual(schema, ("t", (("a", "int", False), ("b", "text", True), ("c", "bool", False)), ((0,), (0, 2))))


class FitsTest(unittest.TestCase):
    SCHEMA = ("t", (A, B, C), ((0,),))

    def check(self, row, expected, schema=SCHEMA):
        with self.subTest(row=row):
            self.assertIs(fits(schema, row), expected)

    def test_rows_that_fit(self):
        for row in ((1, "x", True), (0, None, False), (-5, "", True), (10 ** 18 - 1, "x" * 200, False)):
            self.check(row, True)
            self.check(list(row), True)

    def test_another_number_of_values(self):
        for row in ((), (1,), (1, "x"), (1, "x", True, True), (1, "x", True, None), (None,)):
            self.check(row, False)
            self.check(list(row), False)

    def test_another_kind(self):
        for row in ((True, "x", True), ("1", "x", True), (1, 1, True), (1, True, True), (1, "x", 1), (1, "x", 0),
                    (1, "x", "True"), ("x", 1, True), (1.0, "x", True), (1, b"x", True), (1, ["x"], True),
                    (1, "x", (True,))):
            self.check(row, False)
            self.check(list(row), False)

    def test_out_of_bounds(self):
        for row in ((10 ** 18, "x", True), (-10 ** 18, "x", True), (1, "x" * 201, True), (1, "\n", True),
                    (1, "a" + chr(37), True), (1, chr(127), True)):
            self.check(row, False)
            self.check(list(row), False)

    def test_nulls(self):
        for row in ((None, "x", True), (1, "x", None), (None, None, None), (None, None, True), (1, None, None)):
            self.check(row, False)
            self.check(list(row), False)
        nullable = ("t", (("a", "int", True), ("b", "text", True), ("c", "bool", True)), ())
        self.check((None, None, None), True, nullable)
        self.check((None, "x", None), True, nullable)
        self.check((1, None, True), True, nullable)

    def test_faults_do_not_fit(self):
        self.check((("fault", 1), "x", True), False)
        self.check((1, ("fault", 2), True), False)
        self.check((1, "x", ("fault", 3)), False)

    def test_each_column_counts(self):
        columns = tuple([("c" + str(i), "int", False) for i in range(12)])
        schema = ("t", columns, ())
        self.check(tuple(range(12)), True, schema)
        for at in range(12):
            for x in (None, "a", True):
                row = list(range(12))
                row[at] = x
                self.check(row, False, schema)

    def test_the_row_stays(self):
        row = [1, None, True]
        fits(self.SCHEMA, row)
        self.assertEqual(row, [1, None, True])


if __name__ == "__main__":
    unittest.main()
