"""Columns, packed into lists of numbers and unpacked ([2.1] to [2.4])."""

from peristyle.errors import BadForm, BadKind
from peristyle.packing import EVERY_PACKING, packings_of, read_values, write_values
from peristyle.sevens import Reader, long_number
from peristyle.value import KINDS, is_value, is_whole

MOST_VALUES = 256
# The number of a kind in a packed column is its place here.
KINDS_BY_NUMBER = ("bool", "int", "text")


def is_packing(x):
    """Tell whether x, which may be anything, is the number of a packing."""
    return is_whole(x) and x in EVERY_PACKING


def _is_column(values, kind):
    if not isinstance(values, (list, tuple)) or len(values) > MOST_VALUES or kind not in KINDS:
        return False
    return all([is_value(value, kind) for value in values])


def packed(values, kind, packing):
    """The packed column of values of a kind."""
    if not _is_column(values, kind) or not is_packing(packing):
        raise BadForm()
    if packing not in packings_of(kind):
        raise BadKind(-1)
    return _numbers(values, kind, packing)


def _numbers(values, kind, packing):
    head = [KINDS_BY_NUMBER.index(kind), packing] + long_number(len(values))
    there = [value for value in values if value is not None]
    return head + _mask(values) + write_values(there, kind, packing)


def _mask(values):
    mask = [0] * _mask_length(len(values))
    for index, value in enumerate(values):
        if value is None:
            mask[index // 8] += 1 << index % 8
    return mask


def _mask_length(many):
    return (many + 7) // 8


def best(values, kind):
    """The packing that gives the fewest numbers, the least of several."""
    return packed_best(values, kind)[1]


def packed_best(values, kind):
    """The packed column by the best packing."""
    columns = [packed(values, kind, packing) for packing in packings_of(kind)]
    return min(columns, key=len)


def unpacked(data):
    """The kind, the packing and the values of a packed column."""
    if not _is_numbers(data):
        raise BadForm()
    kind, packing, values = read_column(data)
    # Each column has just one list for each packing, so this finds all that is wrong.
    if packed(values, kind, packing) != data:
        raise BadForm()
    return kind, packing, values


def _is_numbers(data):
    return isinstance(data, list) and all([is_whole(x) and 0 <= x <= 255 for x in data])


def read_column(data):
    """What unpacked tells, of numbers that packed gave; for others BadForm or anything of this form."""
    reader = Reader(data)
    number = reader.one()
    if number >= len(KINDS_BY_NUMBER):
        raise BadForm()
    kind = KINDS_BY_NUMBER[number]
    packing = reader.one()
    many = reader.long()
    if packing not in packings_of(kind) or many > MOST_VALUES:
        raise BadForm()
    mask = reader.several(_mask_length(many))
    nulls = [(mask[index // 8] >> index % 8) & 1 == 1 for index in range(many)]
    there = read_values(reader, kind, packing, nulls.count(False))
    return kind, packing, _spread(there, nulls)


def _spread(there, nulls):
    if len(there) != nulls.count(False):
        raise BadForm()
    values = []
    used = 0
    for null in nulls:
        values.append(None if null else there[used])
        used += 0 if null else 1
    return values
