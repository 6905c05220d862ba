"""How the values of a column that are not null are written, and read, by each packing ([2.3])."""

from peristyle.errors import BadForm
from peristyle.sevens import long_number, signed_number, value_numbers

EVERY_PACKING = (0, 1, 2, 3, 4)
# Steps and near are made of differences, which numbers alone have.
PACKINGS = {"int": (0, 1, 2, 3, 4), "text": (0, 1, 2), "bool": (0, 1, 2)}


def packings_of(kind):
    """The packings that can be used for a kind, rising."""
    return PACKINGS[kind]


def _write_plain(values, kind):
    written = []
    for value in values:
        written.extend(value_numbers(value, kind))
    return written


def _runs_of(values):
    runs = []
    for value in values:
        if runs and runs[-1][1] == value:
            runs[-1] = (runs[-1][0] + 1, value)
        else:
            runs.append((1, value))
    return runs


def _write_runs(values, kind):
    runs = _runs_of(values)
    written = long_number(len(runs))
    for many, value in runs:
        written.extend(long_number(many))
        written.extend(value_numbers(value, kind))
    return written


def _write_book(values, kind):
    book = sorted(set(values))
    indexes = {value: index for index, value in enumerate(book)}
    written = long_number(len(book)) + _write_plain(book, kind)
    for value in values:
        written.extend(long_number(indexes[value]))
    return written


def _write_steps(values, kind):
    written = []
    before = 0
    for value in values:
        written.extend(signed_number(value - before))
        before = value
    return written


def _write_near(values, kind):
    if not values:
        return []
    least = min(values)
    written = signed_number(least)
    for value in values:
        written.extend(long_number(value - least))
    return written


def _read_plain(reader, kind, many):
    return [reader.value(kind) for _ in range(many)]


def _read_runs(reader, kind, many):
    values = []
    for _ in range(_at_most(reader.long(), many)):
        length = _at_most(reader.long(), many - len(values))
        values.extend([reader.value(kind)] * length)
    return values


def _read_book(reader, kind, many):
    size = _at_most(reader.long(), many)
    book = [reader.value(kind) for _ in range(size)]
    return [book[_at_most(reader.long(), size - 1)] for _ in range(many)]


def _read_steps(reader, kind, many):
    values = []
    before = 0
    for _ in range(many):
        before += reader.signed()
        values.append(before)
    return values


def _read_near(reader, kind, many):
    if many == 0:
        return []
    least = reader.signed()
    return [least + reader.long() for _ in range(many)]


def _at_most(n, most):
    if n > most:
        raise BadForm()
    return n


WRITERS = (_write_plain, _write_runs, _write_book, _write_steps, _write_near)
READERS = (_read_plain, _read_runs, _read_book, _read_steps, _read_near)


def write_values(values, kind, packing):
    """The numbers of values that are not null, by a packing that can be used for the kind."""
    write = WRITERS[packing]
    return write(values, kind)


def read_values(reader, kind, packing, many):
    """Values that are not null, from numbers that may be no packing's; BadForm where they say nothing.

    There are as many as asked for, or, of numbers that are no packing's, perhaps fewer.
    """
    read = READERS[packing]
    return read(reader, kind, many)
