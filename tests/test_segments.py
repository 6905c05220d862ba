"""Segments, pack and settle: [3.5] and, as far as a store has them, [12.3]."""

import unittest
from collections import Counter

from peristyle.bound import bound
from peristyle.column import best, packed, unpacked
from peristyle.errors import BadForm, NoSuch
from peristyle.store import Store, segment_rows, segmented
from tests import reference
from tests.tables import FLAGS, LOOSE, rows_told, segment_told, snapshot

MIXED = ("mixed", (("a", "int", True), ("b", "text", True), ("c", "bool", True), ("d", "int", False)), ())
ROWS = [(number * 31 % 17, "t" + str(number % 5), number % 3 == 0, number) for number in range(600)]
ROWS += [(None, None, None, number) for number in range(20)]
PACKINGS = (0, 1, 2, 3, 4)


def packings_of(segment):
    return [column[1] for column in segment[0]]


class SegmentedTest(unittest.TestCase):
    def test_rows_stay_in_order(self):
        for packing in PACKINGS:
            for size in (1, 2, 3, 7, 8, 9, 100, 255, 256):
                segments = segmented(MIXED, ROWS, packing, size)
                self.assertIs(type(segments), list)
                told = []
                for segment in segments:
                    told += segment_told(self, MIXED, segment, size)
                    self.assertEqual(segment[2], ())
                self.assertEqual(told, ROWS)

    def test_all_sizes(self):
        rows = ROWS[:300]
        for size in range(1, 257):
            segments = segmented(LOOSE, [(row[3], row[1]) for row in rows], size % 5, size)
            told = []
            for segment in segments:
                part = segment_rows(LOOSE, segment)
                self.assertLessEqual(len(part), size)
                self.assertEqual(segment[2], ())
                told += part
            self.assertEqual(told, [(row[3], row[1]) for row in rows])

    def test_the_packing_where_it_can_be_used_otherwise_the_best(self):
        for packing in PACKINGS:
            for segment in segmented(MIXED, ROWS, packing, 64):
                for column, data in zip(MIXED[1], segment[0]):
                    kind, used, values = unpacked(data)
                    usable = packing in reference.USABLE[kind]
                    self.assertEqual(used, packing if usable else best(values, kind))
                    self.assertEqual(data, packed(values, column[1], used))

    def test_bounds(self):
        segments = segmented(MIXED, ROWS[598:603], 0, 256)
        self.assertEqual(len(segments), 1)
        first = [row[0] for row in ROWS[598:603]]
        self.assertEqual(segments[0][1][0], bound(first))
        self.assertEqual(segments[0][1][2], (False, False, 3))
        self.assertEqual(segments[0][1][3], (0, 599, 0))

    def test_the_very_numbers(self):
        self.assertEqual(segmented(LOOSE, [(5, "a"), (6, None)], 0, 256),
                         [(([1, 0, 2, 0, 10, 12], [2, 0, 2, 2, 1, 97]), ((5, 6, 0), ("a", "a", 1)), ())])
        self.assertEqual(segmented(LOOSE, [(5, "a"), (6, None)], 4, 1),
                         [(([1, 4, 1, 0, 10, 0], [2, 0, 1, 0, 1, 97]), ((5, 5, 0), ("a", "a", 0)), ()),
                          (([1, 4, 1, 0, 12, 0], [2, 0, 1, 1]), ((6, 6, 0), (None, None, 1)), ())])

    def test_no_rows(self):
        for packing in PACKINGS:
            told = []
            for segment in segmented(MIXED, [], packing, 10):
                told += segment_rows(MIXED, segment)
            self.assertEqual(told, [])

    def test_rows_as_lists_and_in_a_tuple(self):
        rows = ([5, "a"], [6, None], (7, "b"))
        segments = segmented(LOOSE, rows, 0, 256)
        self.assertEqual([row for segment in segments for row in segment_rows(LOOSE, segment)],
                         [(5, "a"), (6, None), (7, "b")])
        self.assertEqual(rows, ([5, "a"], [6, None], (7, "b")))

    def test_what_was_handed_in_may_change(self):
        rows = [[5, "a"], [6, None]]
        segments = segmented(LOOSE, rows, 2, 256)
        rows[0][0] = 1
        rows.append([1, "z"])
        self.assertEqual(segment_rows(LOOSE, segments[0]), [(5, "a"), (6, None)])


class SegmentRowsTest(unittest.TestCase):
    def test_rows_that_are_gone(self):
        columns = (packed([1, 2, 3, 4], "int", 0), packed(["a", None, "b", "b"], "text", 1))
        bounds = ((1, 4, 0), ("a", "b", 1))
        rows = [(1, "a"), (2, None), (3, "b"), (4, "b")]
        for gone in ((), (0,), (3,), (1, 2), (0, 3), (0, 1, 2), (0, 1, 2, 3)):
            segment = (columns, bounds, gone)
            answer = segment_rows(LOOSE, segment)
            self.assertEqual(answer, [row for index, row in enumerate(rows) if index not in gone])
            self.assertIs(type(answer), list)
            for row in answer:
                self.assertIs(type(row), tuple)

    def test_the_segment_stays(self):
        columns = (packed([1, 2], "int", 3), packed(["a", None], "text", 2))
        before = ([list(column) for column in columns])
        segment = (columns, ((1, 2, 0), ("a", "a", 1)), (1,))
        first = segment_rows(LOOSE, segment)
        first.append("more")
        self.assertEqual(segment_rows(LOOSE, segment), [(1, "a")])
        self.assertEqual([list(column) for column in columns], before)


class StoreSegmentsTest(unittest.TestCase):
    def setUp(self):
        self.store = Store()
        self.store.create(MIXED)
        self.store.create(FLAGS)
        self.store.commit([("mixed", [], ROWS)])
        self.store.commit([("mixed", ROWS[50:150], [ROWS[0]] * 3)])
        self.store.commit([("mixed", ROWS[300:610] + [ROWS[0]], []), ("flags", [], [(True, 1, "a"), (False, 2, None)])])
        self.expected = {
            0: Counter(),
            1: Counter(ROWS),
            2: Counter(ROWS[:50] + ROWS[150:] + [ROWS[0]] * 3),
            3: Counter(ROWS[:50] + ROWS[150:300] + ROWS[610:] + [ROWS[0]] * 2),
        }

    def check(self):
        for version, rows in self.expected.items():
            self.assertEqual(rows_told(self, self.store, "mixed", version), rows)
        self.assertEqual(rows_told(self, self.store, "flags", 2), Counter())
        self.assertEqual(rows_told(self, self.store, "flags", 3), Counter([(True, 1, "a"), (False, 2, None)]))
        self.assertEqual(self.store.version(), len(self.expected) - 1)

    def check_packing(self, packing):
        for version in self.expected:
            for segment in self.store.segments("mixed", version):
                for column, used in zip(MIXED[1], packings_of(segment)):
                    if packing in reference.USABLE[column[1]]:
                        self.assertEqual(used, packing)

    def check_sizes(self, size):
        for segment in self.store.segments("mixed", self.store.version()):
            segment_told(self, MIXED, segment, size)

    def test_at_each_version(self):
        self.check()

    def test_pack(self):
        for packing in PACKINGS + PACKINGS[::-1]:
            self.assertIsNone(self.store.pack("mixed", packing))
            self.check()
            self.check_packing(packing)

    def test_settle(self):
        for size in (256, 1, 100, 2, 255, 17, 17):
            self.assertIsNone(self.store.settle("mixed", size))
            self.check()
            self.check_sizes(size)

    def test_both_in_turns(self):
        for packing, size in ((0, 9), (3, 256), (1, 40), (4, 1), (2, 128)):
            self.store.settle("mixed", size)
            self.store.pack("mixed", packing)
            self.check()
            self.check_packing(packing)
            self.check_sizes(size)

    def test_pack_then_settle(self):
        self.store.pack("mixed", 1)
        self.store.settle("mixed", 50)
        self.check()
        self.check_sizes(50)

    def test_commits_after_pack_and_settle(self):
        for step, (packing, size) in enumerate(((2, 30), (4, 1), (0, 256), (3, 77)), 4):
            self.store.pack("mixed", packing)
            self.store.settle("mixed", size)
            gone = list(self.expected[step - 1].elements())[:40]
            new = [(step, "new", None, number) for number in range(60)] + gone[:7]
            self.assertEqual(self.store.commit([("mixed", gone, new)]), step)
            self.expected[step] = self.expected[step - 1] - Counter(gone) + Counter(new)
            self.check()
        self.store.settle("mixed", 33)
        self.check()
        self.check_sizes(33)

    def test_all_rows_go_and_others_come(self):
        self.store.commit([("mixed", list(self.expected[3].elements()), [])])
        self.expected[4] = Counter()
        self.check()
        self.store.settle("mixed", 5)
        self.store.pack("mixed", 0)
        self.check()
        self.store.commit([("mixed", [], ROWS[:3])])
        self.expected[5] = Counter(ROWS[:3])
        self.check()

    def test_a_table_without_rows(self):
        self.store.create(LOOSE)
        for packing in PACKINGS:
            self.store.pack("loose", packing)
        self.store.settle("loose", 1)
        self.assertEqual(self.store.rows("loose", 3), [])
        self.store.commit([("loose", [], [(1, "a")])])
        self.assertEqual(self.store.rows("loose", 3), [])
        self.assertEqual(self.store.rows("loose", 4), [(1, "a")])

    def test_other_tables_stay(self):
        before = self.store.segments("flags", 3)
        self.store.pack("mixed", 1)
        self.store.settle("mixed", 1)
        self.assertEqual(self.store.segments("flags", 3), before)

    def refused(self, error, name, wrong):
        before = snapshot(self, self.store)
        for method, worths in wrong.items():
            for worth in worths:
                with self.subTest(method=method, name=name, worth=worth):
                    with self.assertRaises(error):
                        getattr(self.store, method)(name, worth)
        self.assertEqual(snapshot(self, self.store), before)

    def test_an_unknown_table(self):
        for name in ("nothing", "", "loose"):
            self.refused(NoSuch, name, {"pack": (0, 4, -1, 5, 100), "settle": (1, 256, 0, 257, -1)})

    def test_a_dropped_table(self):
        self.store.drop("flags")
        for method, worths in (("pack", (0, 5)), ("settle", (1, 0))):
            for worth in worths:
                with self.assertRaises(NoSuch):
                    getattr(self.store, method)("flags", worth)

    def test_wrong_packings_and_sizes(self):
        for name in ("mixed", "flags"):
            self.refused(BadForm, name, {"pack": (-1, 5, 6, 255, -4), "settle": (0, 257, -1, 1000)})
        self.check()

    def test_the_first_and_the_last_size_and_packing(self):
        for name in ("mixed", "flags"):
            for size in (1, 256):
                self.store.settle(name, size)
            for packing in (0, 4):
                self.store.pack(name, packing)
        self.check()

    def test_two_thousand_rows(self):
        store = Store()
        store.create(LOOSE)
        rows = [(number, str(number % 11)) for number in range(2000)]
        store.commit([("loose", [], rows)])
        for size in (1, 256, 3):
            store.settle("loose", size)
            self.assertEqual(rows_told(self, store, "loose", 1), Counter(rows))
        store.commit([("loose", rows[::2], [])])
        store.pack("loose", 3)
        self.assertEqual(rows_told(self, store, "loose", 1), Counter(rows))
        self.assertEqual(rows_told(self, store, "loose", 2), Counter(rows[1::2]))


if __name__ == "__main__":
    unittest.main()
