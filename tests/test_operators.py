"""The operators: [1.4] to [1.6]."""

import functools
import itertools
import random
import signal
import unittest

from peristyle.operators import is_strict, kind_of, may_fault, worked

KINDS = ("int", "text", "bool")
TOP = 10 ** 18 - 1
DIV, CAST, MANY, SIZE = [("fault", code) for code in (1, 2, 3, 4)]
FAULTS = [DIV, CAST, MANY, SIZE]

# For each operator the kinds it takes ("k": one kind, whichever) and the kind of its answer.
TAKES = {
    "add": ("int", "int", "int"), "sub": ("int", "int", "int"), "mul": ("int", "int", "int"),
    "div": ("int", "int", "int"), "mod": ("int", "int", "int"), "neg": ("int", "int"), "abs": ("int", "int"),
    "eq": ("k", "k", "bool"), "ne": ("k", "k", "bool"), "lt": ("k", "k", "bool"),
    "le": ("k", "k", "bool"), "gt": ("k", "k", "bool"), "ge": ("k", "k", "bool"),
    "cat": ("text", "text", "text"), "size": ("text", "int"), "upper": ("text", "text"),
    "lower": ("text", "text"), "part": ("text", "int", "int", "text"), "like": ("text", "text", "bool"),
    "number": ("text", "int"), "words": ("int", "text"), "not": ("bool", "bool"),
    "and": ("bool", "bool", "bool"), "or": ("bool", "bool", "bool"), "isnull": ("k", "bool"),
    "same": ("k", "k", "bool"), "coalesce": ("k", "k", "k"), "nullif": ("k", "k", "k"),
    "most": ("k", "k", "k"), "least": ("k", "k", "k"),
}
LAX = ("and", "or", "isnull", "same", "coalesce", "nullif")
FAULTY = ("add", "sub", "mul", "div", "mod", "cat", "number")
SAMPLES = {"int": [-TOP, -3, 0, 1, 7, TOP], "text": ["", "a", "12", "B b", "z" * 200], "bool": [False, True]}


def signatures(name):
    """All tuples of kinds that the operator takes, with the kind of the answer."""
    for kind in KINDS:
        yield tuple([kind if k == "k" else k for k in TAKES[name]])


class Case(unittest.TestCase):
    def gives(self, name, *told):
        """The last one told is the answer for those before it."""
        args, expected = told[:-1], told[-1]
        with self.subTest(name=name, args=args):
            answer = worked(name, args)
            self.assertEqual(answer, expected)
            self.assertIs(type(answer), type(expected))


class KindsTest(unittest.TestCase):
    def test_kind_of_all_operators_for_all_kinds(self):
        for name in TAKES:
            right = {known[:-1]: known[-1] for known in signatures(name)}
            for many in range(5):
                for kinds in itertools.product(KINDS, repeat=many):
                    with self.subTest(name=name, kinds=kinds):
                        self.assertEqual(kind_of(name, kinds), right.get(kinds))

    def test_kind_of_what_is_no_operator(self):
        for name in ("", "plus", "ADD", "Add", "add ", "+", "count", "sum", "min", "max", "case", "in",
                     "exists", "col", "k", "any", "int", "mode", "is", "between", "notlike", "length", "abs2"):
            for kinds in ((), ("int",), ("int", "int"), ("text", "text"), ("bool",), ("bool", "bool")):
                with self.subTest(name=name, kinds=kinds):
                    self.assertIsNone(kind_of(name, kinds))

    def test_may_fault(self):
        for name in TAKES:
            self.assertIs(may_fault(name), name in FAULTY)

    def test_is_strict(self):
        for name in TAKES:
            self.assertIs(is_strict(name), name not in LAX)

    def test_the_answer_is_of_the_kind(self):
        kinds = {int: "int", str: "text", bool: "bool"}
        for name in TAKES:
            for known in signatures(name):
                for args in itertools.product(*[SAMPLES[kind] for kind in known[:-1]]):
                    answer = worked(name, args)
                    if isinstance(answer, tuple):
                        self.assertTrue(may_fault(name), name)
                        self.assertIn(answer, FAULTS)
                    elif answer is None:
                        self.assertEqual(name, "nullif")
                    else:
                        self.assertEqual(kinds[type(answer)], known[-1])


class StrictTest(Case):
    def test_null_goes_before_faults_and_the_least_fault_before_all_else(self):
        for name in TAKES:
            if name in LAX:
                continue
            for known in signatures(name):
                choices = [SAMPLES[kind][1:3] + [None] + FAULTS for kind in known[:-1]]
                for args in itertools.product(*choices):
                    codes = [x[1] for x in args if isinstance(x, tuple)]
                    if None in args:
                        self.gives(name, *args, None)
                    elif codes:
                        self.gives(name, *args, ("fault", min(codes)))

    def test_division_by_nought_beside_null_and_faults(self):
        for name in ("div", "mod"):
            self.gives(name, None, 0, None)
            self.gives(name, 0, None, None)
            self.gives(name, CAST, 0, CAST)
            self.gives(name, MANY, None, None)
            self.gives(name, SIZE, DIV, DIV)

    def test_arguments_stay(self):
        for name in TAKES:
            for known in signatures(name):
                args = tuple([SAMPLES[kind][1] for kind in known[:-1]])
                before = tuple([SAMPLES[kind][1] for kind in known[:-1]])
                worked(name, args)
                self.assertEqual(args, before)


class NumbersTest(Case):
    def test_sums(self):
        self.gives("add", 2, 3, 5)
        self.gives("add", -2, 3, 1)
        self.gives("sub", 2, 3, -1)
        self.gives("sub", 2, -3, 5)
        self.gives("mul", 4, 3, 12)
        self.gives("mul", -4, 3, -12)
        self.gives("mul", -4, -3, 12)
        self.gives("mul", 0, TOP, 0)

    def test_bounds_of_sums(self):
        self.gives("add", TOP, 0, TOP)
        self.gives("add", TOP - 1, 1, TOP)
        self.gives("add", TOP, 1, SIZE)
        self.gives("add", TOP, TOP, SIZE)
        self.gives("add", 1 - TOP, -1, -TOP)
        self.gives("add", -TOP, -1, SIZE)
        self.gives("add", TOP, -TOP, 0)
        self.gives("sub", -TOP, 1, SIZE)
        self.gives("sub", 1 - TOP, 1, -TOP)
        self.gives("sub", TOP, -1, SIZE)
        self.gives("sub", TOP - 1, -1, TOP)
        self.gives("sub", TOP, TOP, 0)
        self.gives("sub", -TOP, TOP, SIZE)

    def test_bounds_of_products(self):
        self.gives("mul", 10 ** 9, 10 ** 9, SIZE)
        self.gives("mul", 10 ** 9, -10 ** 9, SIZE)
        self.gives("mul", 10 ** 9, 10 ** 9 - 1, 10 ** 18 - 10 ** 9)
        self.gives("mul", 999999999, 1000000001, TOP)
        self.gives("mul", -999999999, 1000000001, -TOP)
        self.gives("mul", 1, TOP, TOP)
        self.gives("mul", -1, TOP, -TOP)
        self.gives("mul", -1, -TOP, TOP)
        self.gives("mul", 2, TOP, SIZE)
        self.gives("mul", TOP, TOP, SIZE)
        self.gives("mul", -TOP, TOP, SIZE)

    def test_division(self):
        self.gives("div", 7, 2, 3)
        self.gives("div", -7, 2, -4)
        self.gives("div", 7, -2, -4)
        self.gives("div", -7, -2, 3)
        self.gives("div", 6, 3, 2)
        self.gives("div", -6, 3, -2)
        self.gives("div", 0, 5, 0)
        self.gives("div", 1, TOP, 0)
        self.gives("div", -1, TOP, -1)
        self.gives("mod", 7, 2, 1)
        self.gives("mod", -7, 2, 1)
        self.gives("mod", 7, -2, -1)
        self.gives("mod", -7, -2, -1)
        self.gives("mod", 6, 3, 0)
        self.gives("mod", -1, 10, 9)
        self.gives("mod", 1, -10, -9)
        self.gives("mod", 0, 5, 0)

    def test_remainders_go_with_quotients(self):
        for a in range(-12, 13):
            for b in [n for n in range(-5, 6) if n]:
                quotient, rest = worked("div", (a, b)), worked("mod", (a, b))
                self.assertEqual(quotient * b + rest, a)
                self.assertTrue(0 <= rest < b or b < rest <= 0)

    def test_division_at_the_bounds(self):
        for top in (TOP, -TOP):
            self.gives("div", top, 1, top)
            self.gives("div", top, -1, -top)
            self.gives("mod", top, 1, 0)
            self.gives("mod", top, -1, 0)
            self.gives("div", top, top, 1)
            self.gives("div", top, -top, -1)
            self.gives("mod", top, top, 0)
        self.gives("div", TOP, 2, 499999999999999999)
        self.gives("div", -TOP, 2, -500000000000000000)
        self.gives("mod", -1, TOP, TOP - 1)
        self.gives("mod", 1, -TOP, 1 - TOP)
        self.gives("mod", TOP, 10, 9)
        self.gives("mod", -TOP, 10, 1)

    def test_division_by_nought(self):
        for a in (0, 1, -1, TOP, -TOP):
            self.gives("div", a, 0, DIV)
            self.gives("mod", a, 0, DIV)

    def test_neg_and_abs(self):
        for n in (0, 1, 5, TOP):
            self.gives("neg", n, -n)
            self.gives("neg", -n, n)
            self.gives("abs", n, n)
            self.gives("abs", -n, n)


class ComparedTest(Case):
    RISING = {"int": [-TOP, -10, -9, 0, 1, 9, 10, TOP], "bool": [False, True],
              "text": ["", " ", "0", "10", "9", "A", "Z", "a", "aa", "ab", "b", "ba", "~"]}

    def test_all_pairs(self):
        for rising in self.RISING.values():
            for i, a in enumerate(rising):
                for j, b in enumerate(rising):
                    self.gives("eq", a, b, i == j)
                    self.gives("ne", a, b, i != j)
                    self.gives("lt", a, b, i < j)
                    self.gives("le", a, b, i <= j)
                    self.gives("gt", a, b, i > j)
                    self.gives("ge", a, b, i >= j)
                    self.gives("most", a, b, rising[max(i, j)])
                    self.gives("least", a, b, rising[min(i, j)])
                    self.gives("same", a, b, i == j)
                    self.gives("nullif", a, b, None if i == j else a)

    def test_null_is_not_compared(self):
        for name in ("eq", "ne", "lt", "le", "gt", "ge", "most", "least"):
            for value in (None, 0, 1, "", "a", True, False):
                self.gives(name, None, value, None)
                self.gives(name, value, None, None)


class TextsTest(Case):
    def test_cat(self):
        self.gives("cat", "ab", "c", "abc")
        self.gives("cat", "c", "ab", "cab")
        self.gives("cat", "", "", "")
        self.gives("cat", "a", "", "a")
        self.gives("cat", "a" * 100, "b" * 100, "a" * 100 + "b" * 100)
        self.gives("cat", "a" * 200, "", "a" * 200)
        self.gives("cat", "", "a" * 200, "a" * 200)
        self.gives("cat", "a" * 199, "b", "a" * 199 + "b")
        self.gives("cat", "a" * 200, "b", SIZE)
        self.gives("cat", "b", "a" * 200, SIZE)
        self.gives("cat", "a" * 101, "b" * 100, SIZE)
        self.gives("cat", "a" * 200, "b" * 200, SIZE)

    def test_size(self):
        self.gives("size", "", 0)
        self.gives("size", " ", 1)
        self.gives("size", "ab c", 4)
        self.gives("size", "x" * 200, 200)

    def test_upper_and_lower(self):
        signs = "".join([chr(code) for code in range(32, 127) if code != 37])
        small = "abcdefghijklmnopqrstuvwxyz"
        large = "ABCDEFGHIJKLMNOPQRSTUVWXYZ"
        self.gives("upper", signs, signs.replace(small, large))
        self.gives("lower", signs, signs.replace(large, small))
        self.gives("upper", "aB c1_z", "AB C1_Z")
        self.gives("lower", "aB C1_Z", "ab c1_z")
        self.gives("upper", "", "")
        self.gives("lower", "", "")

    def test_part(self):
        self.gives("part", "abc", 0, 2, "a")
        self.gives("part", "abc", 1, 3, "abc")
        self.gives("part", "abc", 1, 1, "a")
        self.gives("part", "abc", 2, 1, "b")
        self.gives("part", "abc", 3, 1, "c")
        self.gives("part", "abc", 3, 5, "c")
        self.gives("part", "abc", 4, 1, "")
        self.gives("part", "abc", 1, 0, "")
        self.gives("part", "abc", 2, -1, "")
        self.gives("part", "abc", 3, -2, "")
        self.gives("part", "abc", -1, 2, "")
        self.gives("part", "abc", -1, 3, "a")
        self.gives("part", "abc", -1, 100, "abc")
        self.gives("part", "abc", -100, 1, "")
        self.gives("part", "", 1, 1, "")

    def test_part_of_all_small_places(self):
        for text in ("", "a", "abcd"):
            for first in range(-6, 8):
                for many in range(-6, 12):
                    signs = [sign for p, sign in enumerate(text, 1) if first <= p < first + many]
                    self.gives("part", text, first, many, "".join(signs))

    def test_part_of_far_places(self):
        for far in (TOP, 2 ** 31, 2 ** 63 - 1 - 8 * 10 ** 18, 10 ** 17):
            self.gives("part", "abc", 1, far, "abc")
            self.gives("part", "abc", 2, far, "bc")
            self.gives("part", "abc", far, far, "")
            self.gives("part", "abc", -far, far, "")
            self.gives("part", "abc", 1 - far, far, "")
            self.gives("part", "abc", 2 - far, far, "a")
            self.gives("part", "abc", far, -far, "")
            self.gives("part", "abc", -far, -far, "")
            self.gives("part", "abc", 1, -far, "")

    def test_words(self):
        self.gives("words", 0, "0")
        self.gives("words", 7, "7")
        self.gives("words", -7, "-7")
        self.gives("words", 1000, "1000")
        self.gives("words", TOP, "9" * 18)
        self.gives("words", -TOP, "-" + "9" * 18)

    def test_number(self):
        self.gives("number", "0", 0)
        self.gives("number", "7", 7)
        self.gives("number", "-7", -7)
        self.gives("number", "1234567890", 1234567890)
        self.gives("number", "007", 7)
        self.gives("number", "-007", -7)
        self.gives("number", "-0", 0)
        self.gives("number", "-000", 0)
        self.gives("number", "000", 0)
        self.gives("number", "9" * 18, TOP)
        self.gives("number", "-" + "9" * 18, -TOP)
        self.gives("number", "0" * 17 + "5", 5)
        self.gives("number", "-" + "0" * 17 + "5", -5)
        self.gives("number", "0" * 18, 0)

    def test_what_is_no_number(self):
        for text in ("", "-", "--1", "+1", "+", "-+1", "+-1", " 1", "1 ", "1 2", "- 1", "-1 ", " ", "1-", "1-2", "1.0",
                     "1.", ".1", "1e3", "1_0", "_1", "1,0", "0x1", "a", "1a", "a1", "one", "1" * 19, "0" * 19,
                     "-" + "1" * 19, "-" + "0" * 18 + "1", "0" * 18 + "1", "1" * 200, "9" * 18 + " ", "O", "l", "/", ":"):
            self.gives("number", text, CAST)

    def test_words_and_number_undo_one_another(self):
        for n in list(range(-120, 121)) + [10 ** k for k in range(18)] + [-10 ** k for k in range(18)]:
            self.assertEqual(worked("number", (worked("words", (n,)),)), n)


@functools.lru_cache(maxsize=None)
def fits(text, pattern):
    """The plainest way to say what [1.4] says of like."""
    if pattern == "":
        return text == ""
    if pattern[0] == "*":
        return fits(text, pattern[1:]) or (text != "" and fits(text[1:], pattern))
    return text != "" and pattern[0] in ("?", text[0]) and fits(text[1:], pattern[1:])


class LikeTest(Case):
    def test_plain_patterns(self):
        self.gives("like", "", "", True)
        self.gives("like", "a", "", False)
        self.gives("like", "", "a", False)
        self.gives("like", "abc", "abc", True)
        self.gives("like", "abc", "ab", False)
        self.gives("like", "ab", "abc", False)
        self.gives("like", "abc", "Abc", False)
        self.gives("like", "abc", "bc", False)
        self.gives("like", "a", "ax", False)
        self.gives("like", "", "x", False)
        self.gives("like", "a", "a*x", False)

    def test_stars(self):
        self.gives("like", "", "*", True)
        self.gives("like", "", "***", True)
        self.gives("like", "abc", "*", True)
        self.gives("like", "abc", "a*", True)
        self.gives("like", "abc", "*c", True)
        self.gives("like", "abc", "a*c", True)
        self.gives("like", "abc", "*b*", True)
        self.gives("like", "abc", "abc*", True)
        self.gives("like", "abc", "*abc", True)
        self.gives("like", "abc", "a*b", False)
        self.gives("like", "abc", "*d*", False)
        self.gives("like", "aab", "*ab", True)
        self.gives("like", "abab", "*ab", True)
        self.gives("like", "abcabd", "*ab*d", True)
        self.gives("like", "aXbXc", "a*X*c", True)

    def test_question_marks(self):
        self.gives("like", "", "?", False)
        self.gives("like", "a", "?", True)
        self.gives("like", "ab", "?", False)
        self.gives("like", "abc", "a?c", True)
        self.gives("like", "abc", "??", False)
        self.gives("like", "abc", "???", True)
        self.gives("like", "abc", "????", False)
        self.gives("like", "abc", "?*?", True)
        self.gives("like", "a", "?*?", False)
        self.gives("like", "?", "?", True)

    def test_signs_that_mean_themselves(self):
        for sign in "._$^+()[]{}|\\#-!~&'\" <>/:;@`,=":
            self.gives("like", sign, sign, True)
            self.gives("like", "x", sign, False)
            self.gives("like", "a" + sign + "b", "a" + sign + "*", True)
        self.gives("like", "*", "*", True)
        self.gives("like", "**", "*?", True)
        self.gives("like", "a*b", "a?b", True)
        self.gives("like", "a*", "ab", False)
        self.gives("like", "a?", "ab", False)
        self.gives("like", "*b", "ab", False)

    def test_all_small_texts_and_patterns(self):
        texts = ["".join(signs) for many in range(5) for signs in itertools.product("ab*?", repeat=many)]
        patterns = ["".join(signs) for many in range(5) for signs in itertools.product("ab*?", repeat=many)]
        for text in texts:
            for pattern in patterns:
                self.assertIs(worked("like", (text, pattern)), fits(text, pattern), (text, pattern))

    def test_longer_texts_and_patterns(self):
        chance = random.Random(2)
        for _ in range(3000):
            text = "".join(chance.choices("ab", k=chance.randrange(14)))
            pattern = "".join(chance.choices("ab*?", k=chance.randrange(12)))
            self.assertIs(worked("like", (text, pattern)), fits(text, pattern), (text, pattern))

    def test_many_stars_do_not_take_for_ever(self):
        signal.alarm(60)
        self.gives("like", "a" * 200, "*a" * 100, True)
        self.gives("like", "a" * 200, "*a" * 99 + "*b", False)
        self.gives("like", "a" * 200, "a*" * 100, True)
        self.gives("like", "a" * 199 + "b", "a*" * 99 + "*b", True)
        self.gives("like", "a" * 199 + "b", "*a" * 99 + "c", False)
        self.gives("like", "ab" * 100, "*ab" * 66, True)
        self.gives("like", "ab" * 100, "*ba" * 66, False)
        self.gives("like", "a" * 200, "*" * 200, True)
        self.gives("like", "a" * 200, "?" * 200, True)
        self.gives("like", "a" * 200, "?" * 199, False)
        self.gives("like", "a" * 199, "?" * 200, False)
        self.gives("like", "a" * 100, "*?" * 100, True)
        self.gives("like", "a" * 99, "*?" * 100, False)
        signal.alarm(0)


# All pairs in [1.5]: F false, T true, N null, 1 to 4 the faults. Rows: the first argument.
ABOUT = {"F": False, "T": True, "N": None, "1": DIV, "2": CAST, "3": MANY, "4": SIZE}
AND = {"F": "FFFFFFF", "T": "FTN1234", "N": "FNNNNNN", "1": "F1N1111", "2": "F2N1222", "3": "F3N1233", "4": "F4N1234"}
OR = {"F": "FTN1234", "T": "TTTTTTT", "N": "NTNNNNN", "1": "1TN1111", "2": "2TN1222", "3": "3TN1233", "4": "4TN1234"}
SAME_FAULT = {"1": "1111111", "2": "2221222", "3": "3331233", "4": "4441234"}


class LogicTest(Case):
    def check_table(self, name, table):
        for first, answers in table.items():
            for second, answer in zip("FTN1234", answers):
                self.gives(name, ABOUT[first], ABOUT[second], ABOUT[answer])

    def test_and(self):
        self.check_table("and", AND)

    def test_or(self):
        self.check_table("or", OR)

    def test_not(self):
        self.gives("not", True, False)
        self.gives("not", False, True)
        self.gives("not", None, None)
        for known in FAULTS:
            self.gives("not", known, known)

    def test_isnull(self):
        self.gives("isnull", None, True)
        for value in (0, 1, -TOP, "", "a", False, True):
            self.gives("isnull", value, False)
        for known in FAULTS:
            self.gives("isnull", known, known)

    def test_same(self):
        self.gives("same", None, None, True)
        for value, other in ((0, 1), (1, 0), ("", "a"), ("a", "A"), (False, True), (True, False)):
            self.gives("same", value, None, False)
            self.gives("same", None, value, False)
            self.gives("same", value, value, True)
            self.gives("same", value, other, False)
        self.check_table("same", SAME_FAULT)
        for known in FAULTS:
            for value in (None, 0, "a", True):
                self.gives("same", value, known, known)

    def test_coalesce(self):
        everything = (0, 5, None) + tuple(FAULTS)
        for second in everything:
            self.gives("coalesce", None, second, second)
            for first in everything:
                if first is not None:
                    self.gives("coalesce", first, second, first)
        self.gives("coalesce", "", "a", "")
        self.gives("coalesce", None, "a", "a")
        self.gives("coalesce", False, True, False)
        self.gives("coalesce", None, False, False)

    def test_nullif(self):
        for second in (0, 5, None, DIV, CAST, MANY, SIZE):
            self.gives("nullif", None, second, None)
            for known in FAULTS:
                self.gives("nullif", known, second, known)
        for value, other in ((0, 1), (1, 0), ("", "a"), ("a", ""), (False, True), (True, False)):
            self.gives("nullif", value, value, None)
            self.gives("nullif", value, other, value)
            self.gives("nullif", value, None, value)
            for known in FAULTS:
                self.gives("nullif", value, known, known)


if __name__ == "__main__":
    unittest.main()
