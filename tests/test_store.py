"""Stores, versions and commits: [3.2] to [3.4]."""

import unittest
from collections import Counter

from peristyle.errors import BadForm, BadKey, BadName, NoSuch, TooMuch
from peristyle.store import Store
from tests.tables import FLAGS, LOOSE, PAIRS, rows_told, snapshot

ONE = (1, "one")
TWO = (2, "two")
TEN = (10, None)


def named(name):
    return (name, (("a", "int", False),), ())


class StoreCase(unittest.TestCase):
    def setUp(self):
        self.store = Store()

    def with_tables(self, *schemas):
        for schema in schemas:
            self.store.create(schema)

    def rows(self, name, version, expected):
        self.assertEqual(rows_told(self, self.store, name, version), Counter(expected))

    def refused(self, error, changes):
        before = snapshot(self, self.store)
        with self.subTest(changes):
            with self.assertRaises(error) as caught:
                self.store.commit(changes)
            self.assertIs(type(caught.exception), error)
        self.assertEqual(snapshot(self, self.store), before)

    def none_such(self, name, *versions):
        for version in versions:
            for told in (self.store.rows, self.store.segments):
                with self.subTest(told=told.__name__, name=name, version=version):
                    with self.assertRaises(NoSuch):
                        told(name, version)


class TablesTest(StoreCase):
    def test_a_new_store(self):
        self.assertEqual(self.store.version(), 0)
        self.assertEqual(self.store.schemas(), ())
        self.none_such("t", 0, 1, -1)
        with self.assertRaises(NoSuch):
            self.store.schema("t")

    def test_stores_share_nothing(self):
        self.with_tables(PAIRS)
        self.store.commit([("pairs", [], [ONE])])
        other = Store()
        self.assertEqual((other.version(), other.schemas()), (0, ()))

    def test_what_tells_none(self):
        self.assertIsNone(self.store.create(PAIRS))
        self.assertIsNone(self.store.pack("pairs", 0))
        self.assertIsNone(self.store.settle("pairs", 1))
        self.assertIsNone(self.store.drop("pairs"))

    def test_schemas_stand_in_the_order_of_creation(self):
        for name in ("b", "c", "a"):
            self.store.create(named(name))
        self.assertEqual(self.store.schemas(), (named("b"), named("c"), named("a")))
        self.assertIs(type(self.store.schemas()), tuple)
        self.store.drop("b")
        self.assertEqual(self.store.schemas(), (named("c"), named("a")))
        self.store.create(named("b"))
        self.assertEqual(self.store.schemas(), (named("c"), named("a"), named("b")))

    def test_schema(self):
        self.with_tables(PAIRS, FLAGS)
        self.assertEqual(self.store.schema("pairs"), PAIRS)
        self.assertEqual(self.store.schema("flags"), FLAGS)
        for name in ("loose", "", "PAIRS", "pair", "a"):
            with self.assertRaises(NoSuch):
                self.store.schema(name)

    def test_create_refuses_what_is_no_schema(self):
        for schema in (("t", (), ()), ("select", (("a", "int", False),), ()), ("t", [("a", "int", False)], ()), (), None,
                       ("t", (("a", "int", True),), ((0,),))):
            with self.assertRaises(BadForm):
                self.store.create(schema)
        self.assertEqual(self.store.schemas(), ())

    def test_create_refuses_a_name_twice(self):
        self.with_tables(PAIRS)
        for schema in (PAIRS, named("pairs")):
            with self.assertRaises(BadName) as caught:
                self.store.create(schema)
            self.assertEqual(caught.exception.at, -1)
        self.assertEqual(self.store.schemas(), (PAIRS,))

    def test_at_most_twenty_tables(self):
        for number in range(20):
            self.store.create(named("t" + str(number)))
        with self.assertRaises(TooMuch):
            self.store.create(named("t20"))
        self.assertEqual(len(self.store.schemas()), 20)
        self.store.drop("t7")
        self.store.create(named("t20"))
        with self.assertRaises(TooMuch):
            self.store.create(named("t7"))

    def test_the_refusals_of_create_have_an_order(self):
        for number in range(20):
            self.store.create(named("t" + str(number)))
        with self.assertRaises(BadForm):
            self.store.create(("t1", (), ()))
        with self.assertRaises(BadForm):
            self.store.create(("t21", (), ()))
        with self.assertRaises(BadName):
            self.store.create(named("t1"))

    def test_drop(self):
        self.with_tables(PAIRS, LOOSE)
        self.store.commit([("pairs", [], [ONE]), ("loose", [], [TWO])])
        self.store.drop("pairs")
        self.none_such("pairs", 0, 1, 2)
        self.rows("loose", 1, [TWO])
        self.assertEqual(self.store.schemas(), (LOOSE,))
        self.assertEqual(self.store.version(), 1)
        for name in ("pairs", "nothing", ""):
            with self.assertRaises(NoSuch):
                self.store.drop(name)
        self.refused(NoSuch, [("pairs", [], [])])

    def test_creating_and_dropping_make_no_version(self):
        self.store.create(PAIRS)
        self.assertEqual(self.store.version(), 0)
        self.store.commit([])
        self.store.create(LOOSE)
        self.store.drop("pairs")
        self.store.pack("loose", 1)
        self.store.settle("loose", 5)
        self.assertEqual(self.store.version(), 1)


class VersionsTest(StoreCase):
    def test_a_table_begins_with_its_creation(self):
        self.store.commit([])
        self.store.commit([])
        self.with_tables(PAIRS)
        self.none_such("pairs", -1, 0, 1, 3)
        self.rows("pairs", 2, [])
        self.assertEqual(self.store.commit([("pairs", [], [ONE])]), 3)
        self.none_such("pairs", -1, 0, 1, 4)
        self.rows("pairs", 2, [])
        self.rows("pairs", 3, [ONE])

    def test_versions_that_are_none(self):
        self.with_tables(PAIRS)
        self.store.commit([("pairs", [], [ONE])])
        self.none_such("pairs", -1, -2, 2, 3, 10 ** 20, -10 ** 20)
        self.none_such("loose", -1, 0, 1, 2)

    def test_a_name_that_is_used_again(self):
        self.with_tables(PAIRS)
        self.store.commit([("pairs", [], [ONE, TWO])])
        self.store.commit([("pairs", [ONE], [])])
        self.store.drop("pairs")
        self.none_such("pairs", 0, 1, 2)
        self.store.create(("pairs", (("x", "bool", True),), ()))
        self.none_such("pairs", 0, 1, 3)
        self.rows("pairs", 2, [])
        self.store.commit([("pairs", [], [(True,), (None,)])])
        self.none_such("pairs", 0, 1)
        self.rows("pairs", 2, [])
        self.rows("pairs", 3, [(True,), (None,)])

    def test_dropped_and_created_again_at_one_version(self):
        self.with_tables(PAIRS)
        self.store.commit([("pairs", [], [ONE])])
        self.store.drop("pairs")
        self.store.create(PAIRS)
        self.none_such("pairs", 0, 2)
        self.rows("pairs", 1, [])
        self.store.commit([("pairs", [], [ONE, TWO])])
        self.rows("pairs", 2, [ONE, TWO])

    def test_versions_never_change(self):
        self.with_tables(LOOSE, FLAGS)
        known = {0: []}
        rows = []
        for step in range(1, 60):
            gone = rows[:step % 3]
            new = [(step % 7, "x" * (step % 4))] * (step % 5)
            rows = rows[len(gone):] + new
            changes = [("loose", gone, new)] if step % 4 else [("loose", gone, []), ("loose", [], new)]
            self.assertEqual(self.store.commit(changes), step)
            self.assertEqual(self.store.version(), step)
            known[step] = rows
        for version, expected in known.items():
            self.rows("loose", version, expected)
            self.rows("flags", version, [])


class CommitTest(StoreCase):
    def setUp(self):
        StoreCase.setUp(self)
        self.with_tables(PAIRS, LOOSE, FLAGS)
        self.store.commit([("pairs", [], [ONE, TWO]), ("loose", [], [ONE, ONE, TEN])])

    def test_the_version_is_told(self):
        answer = self.store.commit([("pairs", [], [TEN])])
        self.assertEqual(answer, 2)
        self.assertIs(type(answer), int)
        self.assertEqual(self.store.version(), 2)

    def test_an_empty_commit_is_a_version(self):
        for changes in ([], (), [("pairs", [], [])], [("flags", (), ()), ("loose", [], [])]):
            before = self.store.version()
            self.assertEqual(self.store.commit(changes), before + 1)
            self.assertEqual(self.store.version(), before + 1)
            self.rows("pairs", before + 1, [ONE, TWO])
            self.rows("loose", before + 1, [ONE, ONE, TEN])
            self.rows("flags", before + 1, [])

    def test_rows_go_and_come(self):
        self.store.commit([("pairs", [ONE], [TEN])])
        self.rows("pairs", 1, [ONE, TWO])
        self.rows("pairs", 2, [TWO, TEN])
        self.rows("loose", 2, [ONE, ONE, TEN])

    def test_of_equal_rows_one_goes(self):
        self.store.commit([("loose", [ONE], [])])
        self.rows("loose", 2, [ONE, TEN])
        self.store.commit([("loose", [], [TEN, TEN, TWO])])
        self.rows("loose", 3, [ONE, TEN, TEN, TEN, TWO])
        self.store.commit([("loose", [TEN, ONE, TEN], [])])
        self.rows("loose", 4, [TEN, TWO])
        self.store.commit([("loose", [TWO, TEN], [])])
        self.rows("loose", 5, [])
        self.rows("loose", 1, [ONE, ONE, TEN])

    def test_more_equal_rows_go_than_there_are(self):
        self.refused(NoSuch, [("loose", [ONE, ONE, ONE], [])])
        self.refused(NoSuch, [("loose", [TEN, TEN], [])])
        self.refused(NoSuch, [("loose", [ONE], []), ("loose", [ONE], []), ("loose", [ONE], [])])

    def test_a_row_goes_before_it_comes(self):
        self.refused(NoSuch, [("pairs", [TEN], [TEN])])
        self.store.commit([("pairs", [ONE], [ONE])])
        self.rows("pairs", 2, [ONE, TWO])

    def test_changes_are_made_one_after_the_other(self):
        self.store.commit([("pairs", [], [TEN]), ("pairs", [TEN], []), ("pairs", [ONE], [(1, "new")]),
                           ("loose", [], [TWO]), ("pairs", [(1, "new")], [(1, "newer")])])
        self.rows("pairs", 2, [TWO, (1, "newer")])
        self.rows("loose", 2, [ONE, ONE, TEN, TWO])
        self.refused(NoSuch, [("loose", [(3, "x")], []), ("loose", [], [(3, "x")])])
        self.refused(NoSuch, [("loose", [], [(3, "x")]), ("loose", [(3, "x"), (3, "x")], [])])
        self.refused(NoSuch, [("loose", [], [(3, "x")]), ("pairs", [(3, "x")], [])])

    def test_a_row_that_comes_and_goes_leaves_nothing(self):
        self.store.commit([("loose", [], [TWO] * 3), ("loose", [TWO] * 3, [])])
        self.rows("loose", 2, [ONE, ONE, TEN])
        self.refused(NoSuch, [("loose", [TWO], [])])

    def test_a_row_that_goes_and_comes_back(self):
        self.store.commit([("pairs", [ONE], [])])
        self.store.commit([("pairs", [], [ONE])])
        self.store.commit([("pairs", [ONE, TWO], [])])
        self.rows("pairs", 1, [ONE, TWO])
        self.rows("pairs", 2, [TWO])
        self.rows("pairs", 3, [ONE, TWO])
        self.rows("pairs", 4, [])

    def test_rows_that_are_nearly_there(self):
        for row in ((1, "On"), (1, None), (1, "one "), (2, "one"), (-1, "one")):
            self.refused(NoSuch, [("pairs", [row], [])])
        self.refused(NoSuch, [("loose", [(10, "")], [])])

    def test_rows_as_lists_and_lists_as_tuples(self):
        self.store.commit([["pairs", [[1, "one"]], [[10, None], (11, "x")]], ("loose", ((1, "one"),), ((7, "y"),))])
        self.rows("pairs", 2, [TWO, TEN, (11, "x")])
        self.rows("loose", 2, [ONE, TEN, (7, "y")])
        self.store.commit((("pairs", ([2, "two"],), []),))
        self.rows("pairs", 3, [TEN, (11, "x")])

    def test_values_of_all_kinds(self):
        rows = [(True, 10 ** 18 - 1, "x" * 200), (False, 1 - 10 ** 18, ""), (True, 0, None), (False, 1, " ~")]
        self.store.commit([("flags", [], rows)])
        self.rows("flags", 2, rows)
        for row in self.store.rows("flags", 2):
            self.assertEqual([type(row[0]), type(row[1])], [bool, int])

    def test_many_rows(self):
        rows = [(number, "n" + str(number % 9)) for number in range(700)]
        self.store.commit([("pairs", [ONE, TWO], rows)])
        self.store.commit([("pairs", rows[100:400], [])])
        self.store.commit([("pairs", rows[400:500], rows[150:200])])
        self.rows("pairs", 2, rows)
        self.rows("pairs", 3, rows[:100] + rows[400:])
        self.rows("pairs", 4, rows[:100] + rows[150:200] + rows[500:])


class RefusedTest(StoreCase):
    def setUp(self):
        StoreCase.setUp(self)
        self.with_tables(PAIRS, LOOSE, FLAGS)
        self.store.commit([("pairs", [], [ONE, TWO]), ("loose", [], [ONE, ONE, TEN])])
        self.store.commit([("pairs", [TWO], [])])

    def test_no_table(self):
        for name in ("nothing", "", "Pairs", "pairs "):
            self.refused(NoSuch, [(name, [], [])])
            self.refused(NoSuch, [("pairs", [], [TEN]), (name, [], [ONE])])

    def test_rows_that_do_not_fit(self):
        for row in ((), (1,), (1, "a", 2), ("a", 1), (None, "a"), (True, "a"), (1, 1), (10 ** 18, "a"), (1, "a" * 201),
                    (1, "\n"), (("fault", 1), "a"), (1, ("fault", 1)), [1], [None, "a"], [1, 2]):
            self.refused(BadForm, [("loose", [], [row])])
            self.refused(BadForm, [("loose", [], [TEN, row, TEN])])
            self.refused(BadForm, [("loose", [row], [])])
            self.refused(BadForm, [("loose", [ONE, row], [TEN])])
            self.refused(BadForm, [("pairs", [], []), ("loose", [], [ONE]), ("loose", [], [ONE, row])])

    def test_rows_that_fit_another_table(self):
        self.refused(BadForm, [("flags", [], [ONE])])
        self.refused(BadForm, [("pairs", [], [(True, 1, "a")])])

    def test_rows_that_are_not_there(self):
        self.refused(NoSuch, [("pairs", [TWO], [])])
        self.refused(NoSuch, [("loose", [ONE, TWO], [])])
        self.refused(NoSuch, [("loose", [], [TWO]), ("flags", [], [(True, 1, None)]), ("pairs", [TEN], [])])

    def test_keys(self):
        self.refused(BadKey, [("pairs", [], [ONE])])
        self.refused(BadKey, [("pairs", [], [(1, None)])])
        self.refused(BadKey, [("pairs", [], [(5, "a"), (5, "b")])])
        self.refused(BadKey, [("pairs", [], [(5, "a"), (5, "a")])])
        self.refused(BadKey, [("pairs", [], [(5, "a")]), ("loose", [], [ONE]), ("pairs", [], [(5, "b")])])
        self.store.commit([("pairs", [], [(5, "one"), (6, "one")])])

    def test_each_key_of_several(self):
        self.store.commit([("flags", [], [(True, 1, "a"), (False, 2, "a"), (True, 3, None)])])
        self.refused(BadKey, [("flags", [], [(True, 1, "b")])])
        self.refused(BadKey, [("flags", [], [(False, 1, "b")])])
        self.refused(BadKey, [("flags", [], [(True, 5, "x"), (False, 5, "x")])])
        self.store.commit([("flags", [], [(False, 4, "a"), (True, 5, "a")])])
        self.store.create(("wide", (("a", "int", False), ("b", "int", False), ("c", "int", True)), ((0, 1),)))
        self.store.commit([("wide", [], [(1, 2, 3), (1, 3, 3), (2, 2, 3), (2, 1, None)])])
        self.refused(BadKey, [("wide", [], [(2, 1, 0)])])

    def test_keys_count_at_the_end_alone(self):
        self.store.commit([("pairs", [], [(1, "other")]), ("pairs", [ONE], [])])
        self.rows("pairs", 3, [(1, "other")])
        self.store.commit([("pairs", [], [(1, "other"), (1, "third")]), ("pairs", [(1, "other"), (1, "other")], [])])
        self.rows("pairs", 4, [(1, "third")])
        self.store.commit([("pairs", [(1, "third")], [(1, "fourth")])])
        self.rows("pairs", 5, [(1, "fourth")])

    def test_rows_of_earlier_versions_have_no_key_any_more(self):
        self.store.commit([("pairs", [], [(2, "again")])])
        self.rows("pairs", 3, [ONE, (2, "again")])

    def test_equal_rows_without_a_key(self):
        self.store.commit([("loose", [], [TEN] * 5)])
        self.rows("loose", 3, [ONE, ONE] + [TEN] * 6)


class ManyRowsTest(StoreCase):
    def setUp(self):
        StoreCase.setUp(self)
        self.with_tables(PAIRS, LOOSE, FLAGS)
        self.many = [(number, "x") for number in range(2000)]
        self.store.commit([("pairs", [], [ONE])])

    def test_two_thousand_rows(self):
        self.store.commit([("loose", [], self.many)])
        self.rows("loose", 2, self.many)
        self.refused(TooMuch, [("loose", [], [ONE])])
        self.store.commit([("loose", self.many[:1], [ONE])])
        self.rows("loose", 3, self.many[1:] + [ONE])

    def test_two_thousand_and_one_rows(self):
        self.refused(TooMuch, [("loose", [], self.many + [ONE])])
        self.refused(TooMuch, [("loose", [], [ONE] * 2001)])
        self.refused(TooMuch, [("loose", [], self.many), ("pairs", [], [TWO]), ("loose", [], [ONE])])
        self.refused(TooMuch, [("pairs", [ONE], self.many + [(2000, None)])])

    def test_more_only_in_between(self):
        self.store.commit([("loose", [], self.many), ("loose", [], self.many), ("loose", self.many, [])])
        self.rows("loose", 2, self.many)
        self.store.commit([("loose", [], [ONE, TWO]), ("loose", [TWO], []), ("loose", self.many[:1], [])])
        self.rows("loose", 3, self.many[1:] + [ONE])

    def test_each_table_has_its_own_rows(self):
        self.store.commit([("loose", [], self.many), ("pairs", [ONE], self.many)])
        self.rows("pairs", 2, self.many)
        self.rows("loose", 2, self.many)

    def test_the_refusals_have_an_order(self):
        short = (1,)
        away = (9, "away")
        twins = [(1, "twin")]
        more = [ONE] * 2001
        wrong_name = ("nothing", [], [])
        wrong_form = ("loose", [], [short])
        wrong_gone_form = ("loose", [short], [])
        not_there = ("loose", [away], [])
        two_alike = ("pairs", [], twins)
        too_many = ("loose", [], more)
        # Within one change: the table, then what goes, then what comes.
        self.refused(NoSuch, [("nothing", [short], [short])])
        self.refused(BadForm, [("loose", [short], [])])
        self.refused(BadForm, [("loose", [away], [short])])
        self.refused(NoSuch, [("loose", [away], more)])
        self.refused(NoSuch, [("pairs", [away], twins)])
        # Of tables and forms the earlier change goes first.
        self.refused(NoSuch, [wrong_name, wrong_form])
        self.refused(BadForm, [wrong_form, wrong_name])
        self.refused(NoSuch, [wrong_name, wrong_gone_form])
        self.refused(BadForm, [wrong_gone_form, wrong_name])
        # Both go before all that comes about in the making.
        for later in (not_there, two_alike, too_many):
            self.refused(BadForm, [later, wrong_form])
            self.refused(BadForm, [wrong_form, later])
            self.refused(BadForm, [later, wrong_gone_form])
            self.refused(NoSuch, [later, wrong_name])
            self.refused(NoSuch, [wrong_name, later])
        # Then the rows that are not there, then keys, then too many rows.
        self.refused(NoSuch, [two_alike, not_there])
        self.refused(NoSuch, [not_there, two_alike])
        self.refused(NoSuch, [too_many, not_there])
        self.refused(NoSuch, [not_there, too_many])
        self.refused(BadKey, [too_many, two_alike])
        self.refused(BadKey, [two_alike, too_many])
        self.refused(BadKey, [("pairs", [], [ONE] + self.many)])

    def test_keys_of_all_tables_go_before_too_many_rows(self):
        self.refused(BadKey, [("pairs", [ONE], self.many + [(2000, None)]), ("flags", [], [(True, 1, None)] * 2)])
        self.refused(BadKey, [("loose", [], [ONE] * 2001), ("flags", [], [(True, 1, None), (False, 1, None)])])

    def test_a_store_goes_on_after_a_refusal(self):
        self.refused(TooMuch, [("pairs", [ONE], [TEN]), ("loose", [], [ONE] * 2001)])
        self.refused(NoSuch, [("pairs", [ONE], [TEN]), ("pairs", [ONE], [])])
        self.refused(BadKey, [("loose", [], [TWO]), ("pairs", [], [(1, "x")])])
        self.assertEqual(self.store.commit([("pairs", [ONE], [TEN]), ("loose", [], [TWO])]), 2)
        self.rows("pairs", 2, [TEN])
        self.rows("loose", 2, [TWO])


class HandedTest(StoreCase):
    """What is handed in may be changed later, and what is told too."""

    def test_what_was_handed_in(self):
        self.with_tables(LOOSE)
        row = [1, "a"]
        new = [row, [2, "b"]]
        change = ["loose", [], new]
        changes = [change]
        self.store.commit(changes)
        self.assertEqual(changes, [["loose", [], [[1, "a"], [2, "b"]]]])
        row[0] = 9
        row.append("x")
        new.append([3, "c"])
        change[0] = "other"
        changes.append("more")
        self.rows("loose", 1, [(1, "a"), (2, "b")])
        gone = [[1, "a"]]
        self.store.commit([("loose", gone, [])])
        self.assertEqual(gone, [[1, "a"]])
        gone[0][0] = 2
        self.rows("loose", 2, [(2, "b")])

    def test_a_refused_commit_leaves_what_was_handed_in(self):
        self.with_tables(LOOSE)
        changes = [("loose", [], [[1, "a"]]), ("loose", [[1, "a"], [1, "a"]], [])]
        with self.assertRaises(NoSuch):
            self.store.commit(changes)
        self.assertEqual(changes, [("loose", [], [[1, "a"]]), ("loose", [[1, "a"], [1, "a"]], [])])

    def test_rows_that_were_told(self):
        self.with_tables(LOOSE)
        self.store.commit([("loose", [], [ONE, TWO])])
        told = self.store.rows("loose", 1)
        told.append(TEN)
        told[0] = TEN
        self.rows("loose", 1, [ONE, TWO])
        self.assertIsNot(self.store.rows("loose", 0), self.store.rows("loose", 0))

    def test_segments_that_were_told(self):
        self.with_tables(LOOSE)
        self.store.commit([("loose", [], [ONE, TWO, TEN])])
        told = self.store.segments("loose", 1)
        for columns, _, _ in told:
            for column in columns:
                self.assertIs(type(column), list)
                column[0] = 0
                column.append(77)
                column.insert(0, 99)
        told.append("more")
        self.rows("loose", 1, [ONE, TWO, TEN])
        self.store.commit([("loose", [ONE], [])])
        self.rows("loose", 2, [TWO, TEN])
        for columns, _, _ in self.store.segments("loose", 2):
            for column in columns:
                del column[:]
        self.store.pack("loose", 1)
        self.rows("loose", 1, [ONE, TWO, TEN])
        self.rows("loose", 2, [TWO, TEN])


if __name__ == "__main__":
    unittest.main()
