"""Reading the calls of a query ([4.3], [4.5])."""

FUNCTIONS = {
    "mod": 2, "abs": 1, "size": 1, "upper": 1, "lower": 1, "part": 3, "number": 1, "words": 1,
    "coalesce": 2, "nullif": 2, "most": 2, "least": 2,
}


def read_call(cursor, name, place, read_exprs, read_items):
    """Read what stands behind the name of a call."""
    cursor.skip()
    star = cursor.take("*")
    distinct = False
    args = ()
    if not star and not cursor.sees(")"):
        distinct = cursor.take("DISTINCT")
        args = read_exprs(cursor)
    cursor.need(")")
    if cursor.take("OVER"):
        window = _read_window(cursor, read_exprs, read_items)
        return ("call", name, distinct, args, star, window, place)
    if FUNCTIONS.get(name, -1) == len(args) and not distinct:
        return ("op", name, args, place)
    return ("call", name, distinct, args, star, None, place)


def _read_window(cursor, read_exprs, read_items):
    partition = ()
    order = ()
    frame = None
    cursor.need("(")
    if cursor.take("PARTITION"):
        cursor.need("BY")
        partition = read_exprs(cursor)
    if cursor.take("ORDER"):
        cursor.need("BY")
        order = read_items(cursor)
    if cursor.take("ROWS"):
        cursor.need("BETWEEN")
        first = _read_edge(cursor)
        cursor.need("AND")
        frame = (first, _read_edge(cursor))
    cursor.need(")")
    return (partition, order, frame)


def _read_edge(cursor):
    what = cursor.what()
    if what == "CURRENT":
        cursor.skip()
        cursor.need("ROW")
        return ("here", 0)
    if what == "UNBOUNDED":
        cursor.skip()
        return ("start", 0) if _is_before(cursor) else ("end", 0)
    number = cursor.need_small_number()
    return ("before", number) if _is_before(cursor) else ("after", number)


def _is_before(cursor):
    return cursor.need_one(("PRECEDING", "FOLLOWING")) == "PRECEDING"
