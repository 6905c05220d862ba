"""The schemas of tables, and the rows that fit them ([3.1])."""

from peristyle.errors import BadForm
from peristyle.names import is_name
from peristyle.value import KINDS, is_value, is_whole

MOST_COLUMNS = 12
MOST_KEYS = 4


def check_schema(schema):
    """Refuse by BadForm what is no schema."""
    if not _is_schema(schema):
        raise BadForm()


def _is_schema(schema):
    if not isinstance(schema, tuple) or len(schema) != 3:
        return False
    name, columns, keys = schema
    return is_name(name) and _are_columns(columns) and _are_keys(keys, columns)


def _are_columns(columns):
    if not isinstance(columns, tuple) or not 1 <= len(columns) <= MOST_COLUMNS:
        return False
    if not all([_is_column(column) for column in columns]):
        return False
    return len(set([column[0] for column in columns])) == len(columns)


def _is_column(column):
    if not isinstance(column, tuple) or len(column) != 3:
        return False
    name, kind, nullable = column
    return is_name(name) and kind in KINDS and isinstance(nullable, bool)


def _are_keys(keys, columns):
    if not isinstance(keys, tuple) or len(keys) > MOST_KEYS:
        return False
    if not all([_is_key(key, columns) for key in keys]):
        return False
    return len(set(keys)) == len(keys)


def _is_key(key, columns):
    if not isinstance(key, tuple) or not key:
        return False
    if not all([is_whole(index) and 0 <= index < len(columns) for index in key]):
        return False
    if any([columns[index][2] for index in key]):
        return False
    return list(key) == sorted(set(key))


def fits(schema, row):
    """Tell whether a row, a tuple or a list of anything, fits the schema."""
    columns = schema[1]
    if not isinstance(row, (tuple, list)) or len(row) != len(columns):
        return False
    return all([_fits_column(column, value) for column, value in zip(columns, row)])


def _fits_column(column, value):
    _, kind, nullable = column
    return is_value(value, kind) and (nullable or value is not None)
