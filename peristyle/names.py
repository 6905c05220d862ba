"""Names and reserved words ([3.1], [4.2])."""

RESERVED = (
    "select", "distinct", "from", "where", "group", "by", "having", "order", "limit", "offset", "as",
    "join", "inner", "left", "right", "full", "cross", "on", "union", "intersect", "except", "all",
    "values", "with", "and", "or", "not", "is", "null", "true", "false", "in", "exists", "between",
    "like", "case", "when", "then", "else", "end", "asc", "desc", "nulls", "first", "last", "over",
    "partition", "rows", "preceding", "following", "unbounded", "current", "row",
)
LETTERS = "abcdefghijklmnopqrstuvwxyz"
NAME_SIGNS = "abcdefghijklmnopqrstuvwxyz0123456789_"
LONGEST_NAME = 20


def is_name(x):
    """Tell whether x, which may be anything, is a name."""
    if not isinstance(x, str) or not 1 <= len(x) <= LONGEST_NAME or x in RESERVED:
        return False
    return x[0] in LETTERS and all([sign in NAME_SIGNS for sign in x])
