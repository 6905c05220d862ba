"""Values, faults, and their order ([1.1] to [1.3])."""

KINDS = ("int", "text", "bool")
LIMIT = 10 ** 18
LONGEST = 200
# All signs of texts, rising by their codes: 32 to 126 without 37.
SIGNS = " !\"#$&'()*+,-./0123456789:;<=>?@ABCDEFGHIJKLMNOPQRSTUVWXYZ[\\]^_`abcdefghijklmnopqrstuvwxyz{|}~"

DIV = 1
CAST = 2
MANY = 3
SIZE = 4


def is_whole(x):
    """Tell whether x is a whole number; truth values are none."""
    return isinstance(x, int) and not isinstance(x, bool)


def is_value(x, kind):
    """Tell whether x, which may be anything, is a value of the kind."""
    if x is None:
        return True
    if kind == "int":
        return is_whole(x) and -LIMIT < x < LIMIT
    if kind == "bool":
        return isinstance(x, bool)
    return kind == "text" and isinstance(x, str) and _has_text_signs(x)


def kind_of_value(x):
    """The kind of a value that is not null."""
    if isinstance(x, bool):
        return "bool"
    return "int" if isinstance(x, int) else "text"


def _has_text_signs(text):
    return len(text) <= LONGEST and all([sign in SIGNS for sign in text])


def fault(code):
    """The fault of a code."""
    return ("fault", code)


def is_fault(x):
    """Tell whether x, which may be anything, is a fault."""
    if not isinstance(x, tuple) or len(x) != 2:
        return False
    return x[0] == "fault" and is_whole(x[1]) and DIV <= x[1] <= SIZE


def least_fault(xs):
    """The least fault in a list, or None."""
    codes = [x[1] for x in xs if is_fault(x)]
    return fault(min(codes)) if codes else None


def sort_key(x):
    """What values of one kind, nulls and faults are sorted by."""
    if x is None:
        return (1, 0)
    if isinstance(x, tuple):
        return (2, x[1])
    return (0, x)


def row_key(row):
    """What rows are sorted by."""
    return [sort_key(x) for x in row]


def order(a, b):
    """-1, 0 or 1: how a stands to b in the order of values and faults."""
    return _compared(sort_key(a), sort_key(b))


def row_order(a, b):
    """-1, 0 or 1: how the row a stands to the row b."""
    return _compared(row_key(a), row_key(b))


def _compared(a, b):
    if a == b:
        return 0
    return -1 if a < b else 1


def sorted_rows(rows):
    """A list of the rows as tuples, ordered."""
    return sorted([tuple(row) for row in rows], key=row_key)
