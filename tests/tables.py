"""What the tests of stores share: schemas, and looks at a store from outside."""

from collections import Counter

from peristyle.bound import bound
from peristyle.column import unpacked
from peristyle.errors import NoSuch
from peristyle.store import segment_rows

PAIRS = ("pairs", (("a", "int", False), ("b", "text", True)), ((0,),))
LOOSE = ("loose", (("a", "int", False), ("b", "text", True)), ())
FLAGS = ("flags", (("x", "bool", False), ("y", "int", False), ("z", "text", True)), ((0, 1), (1,)))


def rows_told(case, store, name, version):
    """The rows at a version as a Counter, after a look at their form and at the segments."""
    rows = store.rows(name, version)
    case.assertIs(type(rows), list)
    for row in rows:
        case.assertIs(type(row), tuple)
    segments = store.segments(name, version)
    case.assertIs(type(segments), list)
    found = Counter()
    for segment in segments:
        found.update(segment_told(case, store.schema(name), segment))
    case.assertEqual(found, Counter(rows))
    return Counter(rows)


def segment_told(case, schema, segment, most=256):
    """The rows of a segment that are there, after a look at its form."""
    case.assertIs(type(segment), tuple)
    columns, bounds, gone = segment
    case.assertEqual([type(columns), type(bounds), type(gone)], [tuple, tuple, tuple])
    case.assertEqual((len(columns), len(bounds)), (len(schema[1]), len(schema[1])))
    values = []
    for column, data, limits in zip(schema[1], columns, bounds):
        kind, packing, told = unpacked(data)
        case.assertEqual(kind, column[1])
        case.assertEqual(limits, bound(told))
        values.append(told)
    many = len(values[0])
    case.assertEqual([len(told) for told in values], [many] * len(values))
    case.assertLessEqual(many, most)
    case.assertEqual(list(gone), sorted(set(gone)))
    case.assertTrue(all(0 <= index < many for index in gone))
    rows = segment_rows(schema, segment)
    case.assertIs(type(rows), list)
    case.assertEqual(rows, [row for index, row in enumerate(zip(*values)) if index not in gone])
    return rows


def snapshot(case, store):
    """All that a store tells of its tables."""
    told = {}
    for schema in store.schemas():
        for version in range(store.version() + 1):
            try:
                told[schema[0], version] = rows_told(case, store, schema[0], version)
            except NoSuch:
                told[schema[0], version] = None
    return store.version(), store.schemas(), told
