"""The bounds of columns: [2.5]."""

import itertools
import operator
import unittest

from peristyle.bound import bound, may_hold

TOP = 10 ** 18 - 1
NAMES = {"eq": operator.eq, "ne": operator.ne, "lt": operator.lt, "le": operator.le, "gt": operator.gt,
         "ge": operator.ge}


class BoundTest(unittest.TestCase):
    def check(self, values, expected):
        before = list(values)
        answer = bound(values)
        self.assertEqual(answer, expected)
        self.assertIs(type(answer), tuple)
        self.assertEqual([type(x) for x in answer], [type(x) for x in expected])
        self.assertEqual(values, before)

    def test_no_values(self):
        self.check([], (None, None, 0))

    def test_nulls_alone(self):
        self.check([None], (None, None, 1))
        self.check([None] * 256, (None, None, 256))

    def test_ints(self):
        self.check([3], (3, 3, 0))
        self.check([0], (0, 0, 0))
        self.check([3, -1, 2], (-1, 3, 0))
        self.check([None, 10, 9, None, 11, None], (9, 11, 3))
        self.check([0, None], (0, 0, 1))
        self.check([TOP, -TOP], (-TOP, TOP, 0))
        self.check(list(range(256)), (0, 255, 0))

    def test_texts(self):
        self.check([""], ("", "", 0))
        self.check(["b", None, "a", "ab", "B"], ("B", "b", 1))
        self.check(["10", "9", ""], ("", "9", 0))
        self.check([None, "~", " "], (" ", "~", 1))

    def test_truth_values(self):
        self.check([True], (True, True, 0))
        self.check([False, None], (False, False, 1))
        self.check([True, None, False, True], (False, True, 1))


class MayHoldTest(unittest.TestCase):
    def check(self, least, greatest, value, **expected):
        for name, answer in expected.items():
            for nulls in (0, 1, 7):
                with self.subTest(name=name, bound=(least, greatest, nulls), value=value):
                    self.assertIs(may_hold(name, (least, greatest, nulls), value), answer)

    def test_ints(self):
        self.check(3, 7, 1, eq=False, ne=True, lt=False, le=False, gt=True, ge=True)
        self.check(3, 7, 2, eq=False, ne=True, lt=False, le=False, gt=True, ge=True)
        self.check(3, 7, 3, eq=True, ne=True, lt=False, le=True, gt=True, ge=True)
        self.check(3, 7, 4, eq=True, ne=True, lt=True, le=True, gt=True, ge=True)
        self.check(3, 7, 6, eq=True, ne=True, lt=True, le=True, gt=True, ge=True)
        self.check(3, 7, 7, eq=True, ne=True, lt=True, le=True, gt=False, ge=True)
        self.check(3, 7, 8, eq=False, ne=True, lt=True, le=True, gt=False, ge=False)

    def test_one_int(self):
        self.check(5, 5, 4, eq=False, ne=True, lt=False, le=False, gt=True, ge=True)
        self.check(5, 5, 5, eq=True, ne=False, lt=False, le=True, gt=False, ge=True)
        self.check(5, 5, 6, eq=False, ne=True, lt=True, le=True, gt=False, ge=False)
        self.check(0, 0, 0, eq=True, ne=False, lt=False, le=True, gt=False, ge=True)

    def test_two_neighbours(self):
        self.check(5, 6, 5, eq=True, ne=True, lt=False, le=True, gt=True, ge=True)
        self.check(5, 6, 6, eq=True, ne=True, lt=True, le=True, gt=False, ge=True)
        self.check(-1, 0, 0, eq=True, ne=True, lt=True, le=True, gt=False, ge=True)

    def test_ints_at_the_bounds(self):
        self.check(-TOP, TOP, TOP, eq=True, ne=True, lt=True, le=True, gt=False, ge=True)
        self.check(-TOP, TOP, -TOP, eq=True, ne=True, lt=False, le=True, gt=True, ge=True)

    def test_texts(self):
        self.check("b", "d", "a", eq=False, ne=True, lt=False, le=False, gt=True, ge=True)
        self.check("b", "d", "b", eq=True, ne=True, lt=False, le=True, gt=True, ge=True)
        self.check("b", "d", "b ", eq=True, ne=True, lt=True, le=True, gt=True, ge=True)
        self.check("b", "d", "c", eq=True, ne=True, lt=True, le=True, gt=True, ge=True)
        self.check("b", "d", "d", eq=True, ne=True, lt=True, le=True, gt=False, ge=True)
        self.check("b", "d", "d ", eq=False, ne=True, lt=True, le=True, gt=False, ge=False)
        self.check("b", "d", "", eq=False, ne=True, lt=False, le=False, gt=True, ge=True)
        self.check("", "", "", eq=True, ne=False, lt=False, le=True, gt=False, ge=True)
        self.check("", "", "a", eq=False, ne=True, lt=True, le=True, gt=False, ge=False)
        self.check("a", "a ", "a", eq=True, ne=True, lt=False, le=True, gt=True, ge=True)
        self.check("10", "9", "2", eq=True, ne=True, lt=True, le=True, gt=True, ge=True)
        self.check("B", "a", "Z", eq=True, ne=True, lt=True, le=True, gt=True, ge=True)

    def test_truth_values(self):
        self.check(False, False, False, eq=True, ne=False, lt=False, le=True, gt=False, ge=True)
        self.check(False, False, True, eq=False, ne=True, lt=True, le=True, gt=False, ge=False)
        self.check(True, True, False, eq=False, ne=True, lt=False, le=False, gt=True, ge=True)
        self.check(True, True, True, eq=True, ne=False, lt=False, le=True, gt=False, ge=True)
        self.check(False, True, False, eq=True, ne=True, lt=False, le=True, gt=True, ge=True)
        self.check(False, True, True, eq=True, ne=True, lt=True, le=True, gt=False, ge=True)

    def test_null(self):
        for least, greatest in ((3, 7), (0, 0), ("", "a"), ("a", "a"), (False, True), (True, True)):
            self.check(least, greatest, None, eq=False, ne=False, lt=False, le=False, gt=False, ge=False)

    def test_columns_of_nulls_alone(self):
        for value in (None, 0, 5, -TOP, "", "a", False, True):
            self.check(None, None, value, eq=False, ne=False, lt=False, le=False, gt=False, ge=False)

    def test_all_small_bounds(self):
        for rising in (list(range(-3, 4)), [False, True], ["", "a", "aa", "ab", "b"]):
            for least, value, greatest in itertools.product(rising, repeat=3):
                if least <= greatest:
                    within = [x for x in rising if least <= x <= greatest]
                    expected = {name: any(work(x, value) for x in within) for name, work in NAMES.items()}
                    self.check(least, greatest, value, **expected)

    def test_it_holds_of_columns(self):
        for values in itertools.product((None, 1, 2, 4), repeat=3):
            for value in range(0, 6):
                for name, work in NAMES.items():
                    if any(x is not None and work(x, value) for x in values):
                        self.assertIs(may_hold(name, bound(list(values)), value), True)


if __name__ == "__main__":
    unittest.main()
