"""Columns, packed and unpacked: [2.1] to [2.4]."""

import random
import unittest

from peristyle.column import best, packed, unpacked
from peristyle.errors import BadForm, BadKind
from tests import reference

KINDS = ("int", "text", "bool")
TOP = 10 ** 18 - 1

SAMPLES = {
    "int": [
        [], [None], [None] * 8, [None] * 9, [None] * 256, [0], [-1], [1], [63, 64, -64, -65], [TOP], [-TOP],
        [TOP, -TOP], [-TOP, TOP], [TOP, TOP - 1, -TOP, 1 - TOP], [5, None, 5, 5, None, None, 6, 5],
        [1, 2, 3, 4, 5, 6, 7, None], [None, 2, 3, 4, 5, 6, 7, 8, None], list(range(8)), list(range(9)),
        list(range(256)), [10 ** 17 + 3 * i for i in range(256)], [7] * 256, [None, 7] * 128, [3, -3] * 20,
        [9, 8, 7, 6, None, 5], [127, 128, 129, 255, 256, 16383, 16384, -8192, -8193], [2 ** k for k in range(59)],
        [-2 ** k for k in range(59)], [0] * 127 + [1] * 128, [1] + [None] * 254 + [1],
    ],
    "text": [
        [], [None], [None] * 9, [""], ["a"], ["", "", None, ""], ["x" * 127], ["x" * 128], ["x" * 200],
        ["b", "a", "b", None, "a", "ab"], ["a"] * 256, ["a", "b"] * 128, [str(i) for i in range(256)],
        [" ", "~", "$", "&", "\\", "'", '"', "{}"], ["x" * 128, "x" * 127, None, "x" * 128], [None, "z"] * 9,
        ["a" * i for i in range(20)], ["same one", "same one", None, "same one", "other", "other"],
    ],
    "bool": [
        [], [None], [None] * 8, [None] * 9, [True], [False], [True, False], [False, True, None, True],
        [True] * 8, [False] * 9, [True, None] * 128, [False] * 256, [True, False] * 60,
        [True] * 100 + [False] * 100 + [None] * 50,
    ],
}


def cases():
    """All samples with each packing that can be used."""
    for kind in KINDS:
        for values in SAMPLES[kind]:
            for packing in reference.USABLE[kind]:
                yield kind, values, packing


class PackedTest(unittest.TestCase):
    def check(self, values, kind, packing, expected):
        before = list(values)
        answer = packed(values, kind, packing)
        self.assertEqual(answer, expected)
        self.assertIs(type(answer), list)
        self.assertTrue(all(type(x) is int for x in answer))
        self.assertEqual(values, before)

    def test_no_values(self):
        for kind, number in (("bool", 0), ("int", 1), ("text", 2)):
            self.check([], kind, 0, [number, 0, 0])
            self.check([], kind, 1, [number, 1, 0, 0])
            self.check([], kind, 2, [number, 2, 0, 0])
        self.check([], "int", 3, [1, 3, 0])
        self.check([], "int", 4, [1, 4, 0])

    def test_nulls_alone(self):
        for kind, number in (("bool", 0), ("int", 1), ("text", 2)):
            self.check([None] * 3, kind, 0, [number, 0, 3, 7])
            self.check([None] * 3, kind, 1, [number, 1, 3, 7, 0])
            self.check([None] * 3, kind, 2, [number, 2, 3, 7, 0])
        self.check([None] * 3, "int", 3, [1, 3, 3, 7])
        self.check([None] * 3, "int", 4, [1, 4, 3, 7])

    def test_the_mask(self):
        self.check([None] + [True] * 7, "bool", 0, [0, 0, 8, 1] + [1] * 7)
        self.check([True] * 7 + [None], "bool", 0, [0, 0, 8, 128] + [1] * 7)
        self.check([True] * 8, "bool", 0, [0, 0, 8, 0] + [1] * 8)
        self.check([True] * 9, "bool", 0, [0, 0, 9, 0, 0] + [1] * 9)
        self.check([None] * 8, "bool", 0, [0, 0, 8, 255])
        self.check([None] * 9, "bool", 0, [0, 0, 9, 255, 1])
        self.check([False] * 8 + [None], "bool", 0, [0, 0, 9, 0, 1] + [0] * 8)
        self.check([None, False, None, False, False, None, False, False, False, None], "bool", 0,
                   [0, 0, 10, 37, 2, 0, 0, 0, 0, 0, 0])
        self.check([None] * 256, "int", 0, [1, 0, 128, 2] + [255] * 32)

    def test_plain(self):
        self.check([True, False, None, True], "bool", 0, [0, 0, 4, 4, 1, 0, 1])
        self.check([0, -1, 1, -2, 2], "int", 0, [1, 0, 5, 0, 0, 1, 2, 3, 4])
        self.check([63, 64, -64, -65], "int", 0, [1, 0, 4, 0, 126, 128, 1, 127, 129, 1])
        self.check([8191, 8192, -8192, -8193], "int", 0, [1, 0, 4, 0, 254, 127, 128, 128, 1, 255, 127, 129, 128, 1])
        self.check(["", "a", None, " ~"], "text", 0, [2, 0, 4, 4, 0, 1, 97, 2, 32, 126])

    def test_ints_next_to_the_bounds(self):
        top = [254, 255, 159, 246, 244, 172, 219, 224, 27]
        below = [253] + top[1:]
        self.assertEqual(sum(x % 128 * 128 ** i for i, x in enumerate(top)), 2 * TOP)
        self.check([TOP], "int", 0, [1, 0, 1, 0] + top)
        self.check([-TOP], "int", 0, [1, 0, 1, 0] + below)
        self.check([-TOP, TOP], "int", 1, [1, 1, 2, 0, 2, 1] + below + [1] + top)
        self.check([TOP, -TOP], "int", 2, [1, 2, 2, 0, 2] + below + top + [1, 0])
        self.check([-TOP, TOP], "int", 3, [1, 3, 2, 0] + below + [252, 255, 191, 236, 233, 217, 182, 193, 55])
        self.check([TOP, -TOP], "int", 4, [1, 4, 2, 0] + below + top + [0])

    def test_long_texts(self):
        self.check(["x" * 127], "text", 0, [2, 0, 1, 0, 127] + [120] * 127)
        self.check(["x" * 128], "text", 0, [2, 0, 1, 0, 128, 1] + [120] * 128)
        self.check(["x" * 200], "text", 0, [2, 0, 1, 0, 200, 1] + [120] * 200)
        self.check(["x" * 200], "text", 1, [2, 1, 1, 0, 1, 1, 200, 1] + [120] * 200)
        self.check(["x" * 200], "text", 2, [2, 2, 1, 0, 1, 200, 1] + [120] * 200 + [0])

    def test_runs(self):
        self.check([5, 5, 5], "int", 1, [1, 1, 3, 0, 1, 3, 10])
        self.check([5, None, 5, None, 5], "int", 1, [1, 1, 5, 10, 1, 3, 10])
        self.check([5, 6, 5, 5], "int", 1, [1, 1, 4, 0, 3, 1, 10, 1, 12, 2, 10])
        self.check([None, True, True, None, False, True], "bool", 1, [0, 1, 6, 9, 3, 2, 1, 1, 0, 1, 1])
        self.check(["a", "a", "", ""], "text", 1, [2, 1, 4, 0, 2, 2, 1, 97, 2, 0])
        self.check([1] * 128, "int", 1, [1, 1, 128, 1] + [0] * 16 + [1, 128, 1, 2])
        self.check([1, 2] * 64, "int", 1, [1, 1, 128, 1] + [0] * 16 + [128, 1] + [1, 2, 1, 4] * 64)

    def test_book(self):
        self.check([5, -1, 5, None, 3], "int", 2, [1, 2, 5, 8, 3, 1, 6, 10, 2, 0, 2, 1])
        self.check([True, True], "bool", 2, [0, 2, 2, 0, 1, 1, 0, 0])
        self.check([True, False, True], "bool", 2, [0, 2, 3, 0, 2, 0, 1, 1, 0, 1])
        self.check(["b", "ab", "", "b"], "text", 2, [2, 2, 4, 0, 3, 0, 2, 97, 98, 1, 98, 2, 1, 0, 2])
        self.check(list(range(200, 71, -1)), "int", 2,
                   reference.pack(list(range(200, 71, -1)), "int", 2))
        self.assertEqual(packed(list(range(129)), "int", 2)[-3:], [127, 128, 1])

    def test_steps(self):
        self.check([5], "int", 3, [1, 3, 1, 0, 10])
        self.check([5, 6, 4, 4], "int", 3, [1, 3, 4, 0, 10, 2, 3, 0])
        self.check([None, 5, None, 6], "int", 3, [1, 3, 4, 5, 10, 2])
        self.check([-3, 100], "int", 3, [1, 3, 2, 0, 5, 206, 1])

    def test_near(self):
        self.check([5], "int", 4, [1, 4, 1, 0, 10, 0])
        self.check([5, 6, 4, 4], "int", 4, [1, 4, 4, 0, 8, 1, 2, 0, 0])
        self.check([None, 5, None, -6], "int", 4, [1, 4, 4, 5, 11, 11, 0])
        self.check([0, 127, 128], "int", 4, [1, 4, 3, 0, 0, 0, 127, 128, 1])

    def test_the_number_of_values(self):
        self.check([0] * 127, "int", 0, [1, 0, 127] + [0] * 16 + [0] * 127)
        self.check([0] * 128, "int", 0, [1, 0, 128, 1] + [0] * 16 + [0] * 128)
        self.check([0] * 256, "int", 0, [1, 0, 128, 2] + [0] * 32 + [0] * 256)

    def test_all_samples(self):
        for kind, values, packing in cases():
            with self.subTest(kind=kind, values=values, packing=packing):
                self.check(values, kind, packing, reference.pack(values, kind, packing))

    def test_each_answer_is_new(self):
        values = [1, 2, None]
        first = packed(values, "int", 0)
        first.append(9)
        values.append(3)
        self.assertEqual(packed([1, 2, None], "int", 0), [1, 0, 3, 4, 2, 4])


class RefusedTest(unittest.TestCase):
    def test_too_many_values(self):
        for kind, value in (("int", 1), ("text", "a"), ("bool", True)):
            for packing in range(5):
                for many in (257, 258, 1000):
                    with self.assertRaises(BadForm):
                        packed([value] * many, kind, packing)
                    with self.assertRaises(BadForm):
                        packed([None] * many, kind, packing)

    def test_what_is_no_value_of_the_kind(self):
        wrong = {"int": ["a", "", True, False, 10 ** 18, -10 ** 18, 1.0, ("fault", 1), [], (1,)],
                 "text": [1, 0, True, "a" * 201, "a" + chr(37), "\n", "\t", chr(127), chr(233), ("fault", 2), ["a"]],
                 "bool": [0, 1, "a", "True", ("fault", 3), [True]]}
        right = {"int": 1, "text": "a", "bool": True}
        for kind in KINDS:
            for x in wrong[kind]:
                for packing in range(5):
                    for values in ([x], [right[kind], None, x], [x, right[kind]]):
                        with self.subTest(kind=kind, values=values, packing=packing):
                            with self.assertRaises(BadForm):
                                packed(values, kind, packing)

    def test_what_is_no_packing(self):
        for kind, value in (("int", 1), ("text", "a"), ("bool", True)):
            for packing in (-1, 5, 6, 255, -5):
                for values in ([], [None], [value]):
                    with self.assertRaises(BadForm):
                        packed(values, kind, packing)

    def test_steps_and_near_are_for_ints_alone(self):
        for kind, value in (("text", "a"), ("bool", True)):
            for packing in (3, 4):
                for values in ([], [None], [value], [value] * 256):
                    with self.assertRaises(BadKind) as caught:
                        packed(values, kind, packing)
                    self.assertEqual(caught.exception.at, -1)


class BestTest(unittest.TestCase):
    def test_best_of_all_samples(self):
        for kind in KINDS:
            for values in SAMPLES[kind]:
                lengths = [len(reference.pack(values, kind, packing)) for packing in reference.USABLE[kind]]
                before = list(values)
                answer = best(values, kind)
                self.assertEqual(answer, lengths.index(min(lengths)), (kind, values))
                self.assertIs(type(answer), int)
                self.assertEqual(values, before)

    def test_each_packing_is_best_of_something(self):
        far = 10 ** 17
        self.assertEqual(best([1, 2, 3], "int"), 0)
        self.assertEqual(best([far] * 9, "int"), 1)
        self.assertEqual(best([far, -far] * 9, "int"), 2)
        self.assertEqual(best([far + 100 * i * i for i in range(90)], "int"), 3)
        self.assertEqual(best([far + i * 50 % 127 for i in range(90)], "int"), 4)
        self.assertEqual(best(["a", "b", "a"], "text"), 0)
        self.assertEqual(best(["abc"] * 5, "text"), 1)
        self.assertEqual(best(["abc", "abd"] * 5, "text"), 2)
        self.assertEqual(best([True, False, True], "bool"), 0)
        self.assertEqual(best([True] * 9, "bool"), 1)

    def test_the_least_of_several(self):
        for kind in KINDS:
            self.assertEqual(best([], kind), 0)
            self.assertEqual(best([None] * 5, kind), 0)
        self.assertEqual([len(packed([64], "int", p)) for p in (0, 1, 2, 3, 4)], [6, 8, 8, 6, 7])
        self.assertEqual(best([64], "int"), 0)
        self.assertEqual([len(packed([True] * 3, "bool", p)) for p in (0, 1, 2)], [7, 7, 9])
        self.assertEqual(best([True] * 3, "bool"), 0)
        self.assertEqual([len(packed(["ab", "ab", "", ""], "text", p)) for p in (0, 1, 2)], [12, 11, 13])
        self.assertEqual(best(["ab", "ab", "", ""], "text"), 1)
        ties = [10 ** 17, 10 ** 17, -10 ** 17]
        self.assertEqual([len(packed(ties, "int", p)) for p in (0, 1, 2, 3, 4)], [31, 25, 26, 23, 32])
        self.assertEqual(best(ties, "int"), 3)


class UnpackedTest(unittest.TestCase):
    def check(self, data):
        """What unpacked says of a list of numbers must be what the reference says."""
        expected = reference.unpack(data)
        before = list(data)
        if expected is None:
            with self.assertRaises(BadForm, msg=data):
                unpacked(data)
        else:
            answer = unpacked(data)
            self.assertEqual(answer, expected)
            self.assertEqual([type(x) for x in answer[2]], [type(x) for x in expected[2]])
        self.assertEqual(data, before)

    def refused(self, *lists):
        for data in lists:
            with self.subTest(data):
                self.assertIsNone(reference.unpack(data))
                with self.assertRaises(BadForm):
                    unpacked(data)

    def test_the_way_back(self):
        for kind, values, packing in cases():
            data = reference.pack(values, kind, packing)
            answer = unpacked(data)
            self.assertEqual(answer, (kind, packing, values))
            self.assertIs(type(answer), tuple)
            self.assertIs(type(answer[2]), list)
            self.assertEqual([type(x) for x in answer[2]], [type(x) for x in values])
            self.assertEqual(unpacked(packed(values, kind, packing)), (kind, packing, values))

    def test_random_columns(self):
        chance = random.Random(3)
        picks = {"int": [None, 0, 1, -1, 5, TOP, -TOP, 12345], "bool": [None, True, False], "text": [None, "", "a", "bc"]}
        for _ in range(300):
            kind = chance.choice(KINDS)
            values = chance.choices(picks[kind], k=chance.randrange(30))
            packing = chance.choice(reference.USABLE[kind])
            data = reference.pack(values, kind, packing)
            self.assertEqual(packed(values, kind, packing), data)
            self.assertEqual(unpacked(data), (kind, packing, values))

    def test_each_answer_is_a_new_list(self):
        data = packed([1, None, 2], "int", 0)
        first, second = unpacked(data), unpacked(data)
        self.assertIsNot(first[2], second[2])
        first[2].append(7)
        first[2][0] = 9
        self.assertEqual(second[2], [1, None, 2])
        self.assertEqual(unpacked(data), ("int", 0, [1, None, 2]))
        self.assertEqual(data, [1, 0, 3, 2, 2, 4])

    def test_what_is_no_list_of_numbers(self):
        for kind, values, packing in [("int", [1, None, 2], 0), ("int", [5, 5], 1), ("bool", [True, False], 2),
                                      ("text", ["ab"], 0), ("int", [3, 1], 3), ("int", [3, 1], 4)]:
            data = reference.pack(values, kind, packing)
            for at in range(len(data)):
                for x in (-1, 256, 257, -256, None, True, False, "", "a", "0", "1", 1.5, [], [data[at]], (), (0,), {},
                          10 ** 30, -10 ** 30, ("fault", 1)):
                    with self.assertRaises(BadForm):
                        unpacked(data[:at] + [x] + data[at + 1:])
                    with self.assertRaises(BadForm):
                        unpacked(data[:at] + [x] + data[at:])
            for x in (-1, 256, None, True, "a"):
                with self.assertRaises(BadForm):
                    unpacked(data + [x])

    def test_truth_values_are_no_numbers(self):
        for data in ([False, 0, 0], [0, False, 0], [0, 0, False], [True, 0, 0], [0, True, 0, 0], [0, 0, True, 0, 1],
                     [0, 0, 1, False, 1], [0, 0, 1, True], [0, 0, 1, 0, True], [0, 0, 1, 0, False]):
            unpacked([int(x) for x in data])
            with self.assertRaises(BadForm):
                unpacked(data)

    def test_short_lists(self):
        self.refused([], [0], [1], [2], [0, 0], [1, 3], [1, 1, 0], [0, 2, 0], [3, 0, 0], [255, 0, 0], [0, 5, 0], [1, 5, 0])

    def test_all_short_lists(self):
        few = (0, 1, 2, 3, 4, 5, 7, 8, 128)
        for a in few:
            for b in few:
                self.check([a, b])
                for c in few:
                    self.check([a, b, c])
                    for d in few:
                        self.check([a, b, c, d])
                        for e in few:
                            self.check([a, b, c, d, e])

    def test_packings_that_cannot_be_used(self):
        self.refused([0, 3, 0], [0, 4, 0], [2, 3, 0], [2, 4, 0], [0, 3, 1, 1], [2, 4, 1, 1], [0, 3, 1, 0, 1], [2, 3, 1, 0, 1, 97])

    def test_long_numbers_with_noughts_too_many(self):
        self.refused([1, 0, 128, 0], [1, 0, 129, 0, 0, 0], [1, 0, 1, 0, 130, 0], [1, 0, 1, 0, 128, 0],
                     [1, 0, 1, 0, 128, 129, 0], [1, 1, 1, 0, 129, 0, 1, 4], [1, 1, 1, 0, 1, 129, 0, 4],
                     [1, 2, 1, 0, 129, 0, 4, 0], [1, 2, 1, 0, 1, 4, 128, 0], [2, 0, 1, 0, 129, 0, 97],
                     [2, 0, 1, 0, 128, 0], [1, 3, 2, 0, 4, 130, 0], [1, 4, 2, 0, 4, 0, 129, 0],
                     [1, 1, 0, 128, 0], [1, 2, 0, 128, 0], [1, 0, 1, 0] + [128] * 20 + [0])

    def test_endless_long_numbers(self):
        self.refused([1, 0] + [255] * 40, [1, 0, 1, 0] + [128] * 40, [1, 0, 1, 0] + [255] * 40 + [1],
                     [2, 0, 1, 0] + [255] * 40 + [1])
        many = [1, 0, 1, 0] + [255] * 100000
        with self.assertRaises(BadForm):
            unpacked(many)

    def test_masks_with_bits_beyond_the_end(self):
        self.refused([0, 0, 1, 2, 1], [0, 0, 1, 3], [0, 0, 1, 128, 1], [0, 0, 7, 128] + [1] * 7, [0, 0, 7, 255],
                     [0, 0, 9, 0, 2] + [1] * 9, [0, 0, 9, 255, 3], [0, 0, 0, 0], [0, 0, 0, 1], [0, 0, 8, 255, 0])

    def test_wrong_runs(self):
        self.refused([1, 1, 2, 0, 2, 1, 10, 1, 10],      # neighbours of one value
                     [1, 1, 3, 2, 2, 1, 10, 1, 10],      # the same, a null between
                     [1, 1, 1, 0, 2, 0, 10, 1, 12],      # a run of length 0
                     [1, 1, 1, 0, 2, 1, 10, 0, 12], [1, 1, 1, 1, 1, 0, 10], [1, 1, 0, 1, 0, 10],
                     [1, 1, 1, 0, 0], [1, 1, 1, 0, 1, 2, 10], [1, 1, 2, 0, 1, 1, 10], [1, 1, 1, 0, 2, 1, 10],
                     [1, 1, 1, 0, 1, 1, 10, 1, 12], [0, 1, 1, 0, 1, 1, 2], [0, 1, 1, 0, 1, 255, 255, 255, 127, 1])

    def test_wrong_books(self):
        self.refused([1, 2, 2, 0, 2, 12, 10, 0, 1],      # falling
                     [1, 2, 2, 0, 2, 10, 10, 0, 1],      # equal
                     [1, 2, 2, 0, 2, 10, 12, 0, 0],      # one that does not occur
                     [1, 2, 2, 0, 2, 10, 12, 1, 1], [1, 2, 1, 0, 2, 10, 12, 0], [1, 2, 2, 0, 3, 10, 12, 14, 0, 1],
                     [1, 2, 1, 0, 1, 10, 1], [1, 2, 1, 0, 0, 0], [1, 2, 1, 1, 1, 10], [1, 2, 0, 1, 10],
                     [1, 2, 2, 0, 2, 10, 12, 0, 2], [0, 2, 2, 0, 2, 1, 0, 0, 1], [0, 2, 2, 0, 2, 0, 2, 0, 1],
                     [2, 2, 2, 0, 2, 1, 98, 1, 97, 0, 1], [2, 2, 2, 0, 2, 1, 97, 0, 0, 1])

    def test_wrong_near(self):
        self.refused([1, 4, 1, 0, 10, 1], [1, 4, 2, 0, 8, 1, 2], [1, 4, 1, 1, 10], [1, 4, 0, 10], [1, 4, 1, 0, 10],
                     [1, 4, 2, 0, 8, 0])

    def test_values_out_of_bounds(self):
        far = reference.signed(10 ** 18)
        below = reference.signed(-10 ** 18)
        for beyond in (far, below):
            self.refused([1, 0, 1, 0] + beyond, [1, 1, 1, 0, 1, 1] + beyond, [1, 2, 1, 0, 1] + beyond + [0],
                         [1, 3, 1, 0] + beyond, [1, 4, 1, 0] + beyond + [0])
        self.refused([1, 3, 2, 0] + reference.signed(TOP) + [2], [1, 3, 2, 0] + reference.signed(-TOP) + [1],
                     [1, 4, 2, 0] + reference.signed(TOP) + [0, 1],
                     [1, 3, 3, 0] + reference.signed(TOP) + [2, 1])
        self.refused([2, 0, 1, 0, 201, 1] + [97] * 201, [2, 0, 1, 0, 1, 31], [2, 0, 1, 0, 1, 127], [2, 0, 1, 0, 1, 37],
                     [2, 0, 1, 0, 1, 10], [2, 0, 1, 0, 1, 0], [2, 0, 1, 0, 1, 255], [2, 0, 1, 0, 2, 97, 9],
                     [2, 1, 1, 0, 1, 1, 1, 37], [2, 2, 1, 0, 1, 1, 37, 0],
                     [0, 0, 1, 0, 2], [0, 0, 1, 0, 255], [0, 0, 1, 0, 128])
        self.assertEqual(unpacked([2, 0, 1, 0, 200, 1] + [97] * 200), ("text", 0, ["a" * 200]))

    def test_too_many_values(self):
        self.assertEqual(unpacked([0, 0, 128, 2] + [255] * 32), ("bool", 0, [None] * 256))
        self.refused([0, 0, 129, 2] + [255] * 32 + [1], [0, 0, 129, 2] + [0] * 33 + [1] * 257,
                     [0, 0, 136, 2] + [255] * 33, [1, 0, 255, 255, 255, 255, 127])

    def test_numbers_left_over(self):
        for kind, values, packing in cases():
            data = reference.pack(values, kind, packing)
            for rest in ([0], [1], [255], [0, 0], data):
                with self.assertRaises(BadForm):
                    unpacked(data + rest)

    def test_numbers_left_out_added_exchanged_and_replaced(self):
        for kind, values, packing in cases():
            if len(values) > 9:
                continue
            data = reference.pack(values, kind, packing)
            if len(data) > 60:
                continue
            for at in range(len(data)):
                self.check(data[:at])
                self.check(data[:at] + data[at + 1:])
                if at + 1 < len(data):
                    self.check(data[:at] + [data[at + 1], data[at]] + data[at + 2:])
                for x in (0, 1, 2, 3, 5, 10, 97, 127, 128, 129, 255, data[at] ^ 1, (data[at] + 2) % 256):
                    self.check(data[:at] + [x] + data[at + 1:])
                    self.check(data[:at] + [x] + data[at:])

    def test_all_exchanges_of_a_small_column(self):
        for packing in range(5):
            data = reference.pack([3, None, -70, 3], "int", packing)
            for i in range(len(data)):
                for j in range(i):
                    other = list(data)
                    other[i], other[j] = other[j], other[i]
                    self.check(other)
                for x in range(256):
                    self.check(data[:i] + [x] + data[i + 1:])

    def test_long_columns_with_one_number_changed(self):
        chance = random.Random(4)
        for kind, values, packing in cases():
            data = reference.pack(values, kind, packing)
            for _ in range(4):
                at = chance.randrange(len(data))
                self.check(data[:at] + [chance.randrange(256)] + data[at + 1:])
                self.check(data[:at] + data[at + 1:])


if __name__ == "__main__":
    unittest.main()
