"""Values, faults and their order: [1.1] to [1.3]."""

import itertools
import random
import unittest
from fractions import Fraction

from peristyle.value import fault, is_fault, is_value, least_fault, order, row_order, sorted_rows

KINDS = ("int", "text", "bool")
TOP = 10 ** 18 - 1
FAULTS = [("fault", code) for code in (1, 2, 3, 4)]

# Rising by [1.3], for each kind: values, null, faults.
RISING = {
    "int": [-TOP, -TOP + 1, -10, -9, -2, -1, 0, 1, 2, 9, 10, 11, TOP - 1, TOP],
    "text": ["", " ", " a", "!", "0", "10", "9", "A", "AB", "B", "Z", "_", "a", "a ", "aa", "ab", "abc",
             "abcd", "b", "ba", "z", "zz", "z~", "~", "~" * 199, "~" * 200],
    "bool": [False, True],
}
for rising in RISING.values():
    rising.extend([None] + FAULTS)

ALLOWED = "".join([chr(code) for code in range(32, 127) if code != 37])


def sign(number):
    return (number > 0) - (number < 0)


class IsValueTest(unittest.TestCase):
    def check(self, x, kinds):
        for kind in KINDS:
            with self.subTest(x=x, kind=kind):
                self.assertIs(is_value(x, kind), kind in kinds)

    def test_null_is_a_value_of_each_kind(self):
        self.check(None, KINDS)

    def test_truth_values_are_no_ints(self):
        self.check(True, ["bool"])
        self.check(False, ["bool"])

    def test_nought_and_one_are_no_truth_values(self):
        self.check(0, ["int"])
        self.check(1, ["int"])

    def test_ints(self):
        for x in (-1, 2, 37, 10 ** 9, -10 ** 17, 2 ** 53 + 1):
            self.check(x, ["int"])

    def test_bounds_of_ints(self):
        self.check(10 ** 18 - 1, ["int"])
        self.check(10 ** 18, [])
        self.check(10 ** 18 + 1, [])
        self.check(-10 ** 18 + 1, ["int"])
        self.check(-10 ** 18, [])
        self.check(-10 ** 18 - 1, [])
        self.check(10 ** 40, [])

    def test_length_of_texts(self):
        for length in (0, 1, 199, 200):
            self.check("x" * length, ["text"])
        for length in (201, 202, 5000):
            self.check("x" * length, [])

    def test_each_sign_alone(self):
        for code in range(0, 300):
            self.check(chr(code), ["text"] if 32 <= code <= 126 and code != 37 else [])

    def test_wrong_signs_at_each_place(self):
        for code in (0, 9, 10, 13, 31, 37, 127, 128, 160, 233, 0x20ac, 0xff11, 0x1f600):
            for at in (0, 1, 99, 198, 199):
                text = "a" * at + chr(code) + "a" * (199 - at)
                self.check(text, [])

    def test_all_allowed_signs_together(self):
        self.check(ALLOWED, ["text"])
        self.check(" " + "~" * 198 + " ", ["text"])

    def test_other_things_are_no_values(self):
        things = [1.0, 0.0, float("nan"), Fraction(1), 1j, b"a", b"", bytearray(b"a"), [], [1], ["a"], (), (1,),
                  ("a",), {}, {"a": 1}, set(), frozenset(), object(), int, str, len, "a".upper, range(3),
                  ("fault", 1), ("fault", 4)]
        for thing in things:
            self.check(thing, [])


class FaultTest(unittest.TestCase):
    def test_fault(self):
        for code in (1, 2, 3, 4):
            self.assertEqual(fault(code), ("fault", code))
            self.assertIs(type(fault(code)), tuple)

    def test_is_fault_of_faults(self):
        for code in (1, 2, 3, 4):
            self.assertIs(is_fault(("fault", code)), True)
            self.assertIs(is_fault(fault(code)), True)

    def test_is_fault_of_what_is_nearly_one(self):
        near = [("fault", 0), ("fault", 5), ("fault", -1), ("fault", 100), ("fault", None), ("fault", "1"),
                ("fault", 1.5), ("fault", (1,)), ("fault",), ("fault", 1, 1), ("fault", 1, None),
                ("Fault", 1), ("FAULT", 1), ("faults", 1), ("faul", 1), ("", 1), (None, 1), (1, "fault"), (1, 1),
                ("default", 1), (), ["fault", 1], ["fault", 4], {"fault": 1}, {"fault", 1}, "fault", "fault1",
                (("fault", 1),), ("fault", ("fault", 1)), b"fault", "fa"]
        for x in near:
            with self.subTest(x):
                self.assertIs(is_fault(x), False)

    def test_is_fault_of_values(self):
        for x in (None, True, False, 0, 1, 2, 3, 4, -1, TOP, "", "fault", "a" * 200):
            with self.subTest(x):
                self.assertIs(is_fault(x), False)

    def test_is_fault_of_other_things(self):
        for x in ([], {}, 1.0, object(), len, b""):
            self.assertIs(is_fault(x), False)

    def test_least_fault(self):
        self.assertEqual(least_fault([fault(3), fault(2), fault(4)]), ("fault", 2))
        self.assertEqual(least_fault([fault(4)]), ("fault", 4))
        self.assertEqual(least_fault([1, None, fault(4), "a", True]), ("fault", 4))
        self.assertEqual(least_fault([None, fault(4), 1, fault(3)]), ("fault", 3))
        self.assertEqual(least_fault([fault(2), fault(2)]), ("fault", 2))

    def test_least_fault_of_none(self):
        self.assertIsNone(least_fault([]))
        self.assertIsNone(least_fault([1, None, "fault", False, 0, "", -5]))
        self.assertIsNone(least_fault([None, None]))

    def test_least_fault_of_all_lists_of_faults(self):
        for length in (1, 2, 3, 4):
            for xs in itertools.product(FAULTS + [None, 0, "x"], repeat=length):
                codes = [x[1] for x in xs if isinstance(x, tuple)]
                self.assertEqual(least_fault(list(xs)), ("fault", min(codes)) if codes else None)

    def test_least_fault_leaves_the_list(self):
        xs = [3, fault(4), None, fault(1), fault(2)]
        before = list(xs)
        least_fault(xs)
        self.assertEqual(xs, before)


class OrderTest(unittest.TestCase):
    def test_order_of_all_pairs(self):
        for kind, rising in RISING.items():
            for i, a in enumerate(rising):
                for j, b in enumerate(rising):
                    with self.subTest(kind=kind, a=a, b=b):
                        answer = order(a, b)
                        self.assertEqual(answer, sign(i - j))
                        self.assertIs(type(answer), int)

    def test_row_order_of_rows_of_one(self):
        for rising in RISING.values():
            for i, a in enumerate(rising):
                for j, b in enumerate(rising):
                    self.assertEqual(row_order((a,), (b,)), sign(i - j))

    def test_the_first_values_not_alike_count(self):
        self.assertEqual(row_order((1, "b", True), (1, "b", True)), 0)
        self.assertEqual(row_order((1, "b", True), (1, "a", True)), 1)
        self.assertEqual(row_order((1, "b", True), (2, "a", False)), -1)
        self.assertEqual(row_order((2, "a", False), (1, "b", True)), 1)
        self.assertEqual(row_order((1, "a", False), (1, "a", True)), -1)
        self.assertEqual(row_order((None, 1), (None, 2)), -1)
        self.assertEqual(row_order((None, 1), (5, 2)), 1)
        self.assertEqual(row_order((5, 2), (None, 1)), -1)
        self.assertEqual(row_order((None, 2), (None, None)), -1)
        self.assertEqual(row_order((None, None), (None, None)), 0)

    def test_faults_in_rows(self):
        self.assertEqual(row_order((fault(1), 5), (fault(1), 4)), 1)
        self.assertEqual(row_order((fault(1), 5), (fault(2), 4)), -1)
        self.assertEqual(row_order((fault(1),), (None,)), 1)
        self.assertEqual(row_order((None,), (fault(1),)), -1)
        self.assertEqual(row_order((9,), (fault(1),)), -1)
        self.assertEqual(row_order((fault(4),), ("zzz",)), 1)
        self.assertEqual(row_order((1, fault(3)), (1, fault(3))), 0)

    def test_rows_without_values(self):
        self.assertEqual(row_order((), ()), 0)

    def test_row_order_leaves_the_rows(self):
        a, b = [1, None], [1, "x"]
        self.assertEqual(row_order(a, b), 1)
        self.assertEqual((a, b), ([1, None], [1, "x"]))


class SortedRowsTest(unittest.TestCase):
    def check(self, rows, expected):
        before = list(rows)
        answer = sorted_rows(rows)
        self.assertEqual(answer, expected)
        self.assertIs(type(answer), list)
        self.assertIsNot(answer, rows)
        for row in answer:
            self.assertIs(type(row), tuple)
        self.assertEqual(list(rows), before)

    def test_no_rows(self):
        self.check([], [])

    def test_values_nulls_and_faults(self):
        self.check([(fault(2),), (None,), (3,), (fault(1),), (-4,), (None,), (3,)],
                   [(-4,), (3,), (3,), (None,), (None,), (fault(1),), (fault(2),)])
        self.check([("b",), ("",), (None,), ("ab",), (fault(4),), ("a",)],
                   [("",), ("a",), ("ab",), ("b",), (None,), (fault(4),)])
        self.check([(True,), (None,), (False,), (fault(1),), (True,)],
                   [(False,), (True,), (True,), (None,), (fault(1),)])

    def test_later_columns(self):
        self.check([(1, "b", None), (1, "a", True), (0, None, False), (1, "b", False), (None, "a", True)],
                   [(0, None, False), (1, "a", True), (1, "b", False), (1, "b", None), (None, "a", True)])

    def test_faults_and_nulls_in_one_column_with_values_behind(self):
        self.check([(None, 2), (fault(1), 1), (None, 1), (fault(1), None), (7, fault(2)), (7, None)],
                   [(7, None), (7, fault(2)), (None, 1), (None, 2), (fault(1), 1), (fault(1), None)])

    def test_one_row_and_rows_without_values(self):
        self.check([(1, 2)], [(1, 2)])
        self.check([(), ()], [(), ()])

    def test_an_ordered_list_gives_a_new_list(self):
        self.check([(1,), (2,)], [(1,), (2,)])

    def test_lists_become_tuples(self):
        rows = [[2, "a"], [1, "b"], (1, "a")]
        self.check(rows, [(1, "a"), (1, "b"), (2, "a")])
        self.assertEqual([type(row) for row in rows], [list, list, tuple])

    def test_a_tuple_of_rows(self):
        self.check(((2,), (1,)), [(1,), (2,)])

    def test_two_hundred_rows(self):
        chance = random.Random(1)
        ranks = {kind: {repr(x): i for i, x in enumerate(rising)} for kind, rising in RISING.items()}
        for _ in range(5):
            rows = [(chance.choice(RISING["bool"]), chance.choice(RISING["text"]), chance.choice(RISING["int"]))
                    for _ in range(200)]
            expected = sorted(rows, key=lambda row: [ranks["bool"][repr(row[0])], ranks["text"][repr(row[1])],
                                                     ranks["int"][repr(row[2])]])
            self.check(rows, expected)


if __name__ == "__main__":
    unittest.main()
