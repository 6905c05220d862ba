"""Ordering rows by the items of an order ([6.7])."""

from peristyle.value import row_key


def by_rows(rows):
    """The indexes of the rows, by the order of rows; those of equal rows rising."""
    return sorted(list(range(len(rows))), key=lambda index: row_key(rows[index]))


def by_items(indexes, columns, order):
    """The indexes, ordered by items; what is alike in all of them stays in its order.

    A column has the value of an item's expression by the index of a row; none of them is a fault.
    """
    for values, item in reversed(list(zip(columns, order))):
        _, desc, nullsfirst = item
        nulls = [index for index in indexes if values[index] is None]
        others = [index for index in indexes if values[index] is not None]
        others = _falling(others, values) if desc else _rising(others, values)
        indexes = nulls + others if nullsfirst else others + nulls
    return indexes


def _rising(indexes, values):
    return sorted(indexes, key=lambda index: values[index])


def _falling(indexes, values):
    return sorted(indexes, key=lambda index: values[index], reverse=True)
