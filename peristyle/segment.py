"""Segments of tables: packed columns with their bounds ([3.5])."""

from peristyle.bound import bound
from peristyle.column import packed, packed_best, read_column
from peristyle.packing import packings_of


def packed_if_usable(values, kind, packing):
    """The packed column by the packing if it can be used, otherwise by the best one."""
    if packing in packings_of(kind):
        return packed(values, kind, packing)
    return packed_best(values, kind)


def repacked(column, packing):
    """A packed column, packed anew by the packing if it can be used."""
    kind, _, values = read_column(column)
    return packed_if_usable(values, kind, packing)


def segment_of(schema, rows, packing):
    """One segment of at least one row and at most 256; packing None stands for the best one."""
    columns = []
    bounds = []
    values_by_column = list(zip(*rows))
    for column, values in zip(schema[1], values_by_column):
        columns.append(packed_if_usable(values, column[1], packing))
        bounds.append(bound(values))
    return (tuple(columns), tuple(bounds), ())


def cut(rows, size):
    """The rows in lists of at most size rows, in order."""
    return [rows[start:start + size] for start in range(0, len(rows), size)]
