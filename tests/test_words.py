"""Words, numbers, texts and marks ([4.1], [4.2])."""

import unittest

from peristyle.errors import BadText
from peristyle.value import SIGNS
from peristyle.words import words
from tests.trees import outcome

RESERVED = """SELECT DISTINCT FROM WHERE GROUP BY HAVING ORDER LIMIT OFFSET AS JOIN INNER LEFT RIGHT FULL CROSS ON UNION
INTERSECT EXCEPT ALL VALUES WITH AND OR NOT IS NULL TRUE FALSE IN EXISTS BETWEEN LIKE CASE WHEN THEN ELSE END ASC DESC
NULLS FIRST LAST OVER PARTITION ROWS PRECEDING FOLLOWING UNBOUNDED CURRENT ROW""".split()
MARKS = "( ) , . * + - / = <> < <= > >= ||".split()


class WordsTest(unittest.TestCase):
    def check(self, text, *things):
        self.assertEqual(words(text), list(things))

    def check_bad(self, text, at):
        self.assertEqual(outcome(words, text), ("BadText", at))

    def test_each_sort(self):
        self.check("SELECT a_1, 12 'x y'", ("word", "SELECT", 0), ("word", "a_1", 7), ("mark", ",", 10),
                   ("number", 12, 12), ("text", "x y", 15))
        self.check("")
        self.check(" \n\n  ")
        self.check("\n a \n", ("word", "a", 2))
        self.assertIs(type(words("a")), list)
        self.assertIs(type(words("1")[0][1]), int)

    def test_without_blanks(self):
        self.check("12ab", ("number", 12, 0), ("word", "ab", 2))
        self.check("a12", ("word", "a12", 0))
        self.check("a.b", ("word", "a", 0), ("mark", ".", 1), ("word", "b", 2))
        self.check("'a''b'c", ("text", "a'b", 0), ("word", "c", 6))
        self.check("a'b'1'c'", ("word", "a", 0), ("text", "b", 1), ("number", 1, 4), ("text", "c", 5))
        self.check("'a' 'b'", ("text", "a", 0), ("text", "b", 4))
        self.check("(a)", ("mark", "(", 0), ("word", "a", 1), ("mark", ")", 2))
        self.check("1.5", ("number", 1, 0), ("mark", ".", 1), ("number", 5, 2))
        self.check("2SELECT", ("number", 2, 0), ("word", "SELECT", 1))

    def test_marks(self):
        for mark in MARKS:
            self.check(mark, ("mark", mark, 0))
            self.check(f"1{mark}2", ("number", 1, 0), ("mark", mark, 1), ("number", 2, 1 + len(mark)))
        self.check("<=>", ("mark", "<=", 0), ("mark", ">", 2))
        self.check("<<>", ("mark", "<", 0), ("mark", "<>", 1))
        self.check(">==", ("mark", ">=", 0), ("mark", "=", 2))
        self.check("=<", ("mark", "=", 0), ("mark", "<", 1))
        self.check("||||", ("mark", "||", 0), ("mark", "||", 2))
        self.check("--", ("mark", "-", 0), ("mark", "-", 1))
        self.check_bad("a | b", 2)
        self.check_bad("|||", 2)

    def test_reserved_words(self):
        self.assertEqual(len(RESERVED), 53)
        for word in RESERVED:
            for told in (word, word.lower(), word.title(), word[0].lower() + word[1:]):
                self.check(told, ("word", told, 0))

    def test_names(self):
        for name in ("a", "z9_", "selected", "a" * 20, "count", "nulls1", "row_"):
            self.check(name, ("word", name, 0))

    def test_words_that_are_none(self):
        for word in ("A", "_a", "_", "aB", "Selected", "a" * 21, "SELECT_", "_select", "ROW1", "aA", "X" * 21):
            self.check_bad(word, 0)
            self.check_bad("  1 " + word + " 2", 4)
        self.check_bad("a 12_b", 4)

    def test_numbers(self):
        self.check("9" * 18, ("number", 10 ** 18 - 1, 0))
        self.check("0" * 18, ("number", 0, 0))
        self.check("007", ("number", 7, 0))
        self.check_bad("1" * 19, 0)
        self.check_bad("a " + "0" * 19, 2)
        self.check_bad("1" * 19 + "'", 0)

    def test_texts(self):
        self.check("''", ("text", "", 0))
        self.check("''''", ("text", "'", 0))
        self.check("''''''", ("text", "''", 0))
        self.check("' '", ("text", " ", 0))
        for sign in SIGNS.replace("'", ""):
            self.check(f"'{sign}'", ("text", sign, 0))

    def test_length_of_texts(self):
        self.check("'" + "x" * 200 + "'", ("text", "x" * 200, 0))
        self.check("'" + "''" * 200 + "'", ("text", "'" * 200, 0))
        self.check_bad(" '" + "x" * 201 + "'", 1)
        self.check_bad(" '" + "''" * 201 + "'", 1)
        self.check_bad("'" + "x" * 201, 0)

    def test_texts_with_a_mistake(self):
        for sign in ("\n", "\t", "%"):
            self.check_bad(f"a 'bc{sign}d'", 5)
            self.check_bad(f"'{sign}", 1)
            self.check_bad("'" + "x" * 199 + sign + "'", 200)
            # Behind 201 signs nothing is read any more.
            self.check_bad("'" + "x" * 201 + sign + "'", 0)

    def test_texts_without_an_end(self):
        self.check_bad("'", 0)
        self.check_bad("a 'b", 2)
        self.check_bad("'a''", 0)
        self.check_bad("'''", 0)
        self.check_bad("'a' 'b ", 4)

    def test_signs_that_begin_nothing(self):
        for sign in ";\"!#$&:?@[]^`{}~\\|%\t":
            self.check_bad(sign, 0)
            self.check_bad("a" + sign, 1)
            self.check_bad("SELECT 1 " + sign, 9)

    def test_the_first_mistake(self):
        self.check_bad("a ; 'b", 2)
        self.check_bad("a 'b ; c", 2)
        self.check_bad("aB '\n", 0)
        self.check_bad("1 '\n' B", 3)

    def test_what_is_told_is_new(self):
        first = words("a b")
        first.append(1)
        self.assertEqual(words("a b"), [("word", "a", 0), ("word", "b", 2)])

    def test_the_class(self):
        with self.assertRaises(BadText) as told:
            words("\t")
        self.assertIs(type(told.exception), BadText)
        self.assertEqual(told.exception.at, 0)


if __name__ == "__main__":
    unittest.main()
