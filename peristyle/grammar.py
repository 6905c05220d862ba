"""Reading a query: from a text to its tree ([4.3] to [4.6])."""

from peristyle.cursor import Cursor
from peristyle.errors import BadText, TooMuch
from peristyle.exprgrammar import read_bracketed_query, read_expr, read_exprs, read_items
from peristyle.precedence import EXPR
from peristyle.treeparts import is_too_large

LONGEST_QUERY = 3000


def parse(text):
    """The tree of a query."""
    if len(text) > LONGEST_QUERY:
        raise TooMuch()
    cursor = Cursor(text, _read_query)
    tree = _read_query(cursor)
    # Only behind all things is the place that of the end.
    if cursor.place() < len(text):
        raise BadText(cursor.place())
    if is_too_large(tree):
        raise TooMuch()
    return tree


def _read_query(cursor):
    place = cursor.place()
    cursor.enter(place)
    ctes = _read_ctes(cursor) if cursor.take("WITH") else ()
    body = _read_body(cursor)
    order = ()
    limit = None
    offset = 0
    if cursor.take("ORDER"):
        cursor.need("BY")
        order = read_items(cursor)
    if cursor.take("LIMIT"):
        limit = cursor.need_small_number()
    if cursor.take("OFFSET"):
        offset = cursor.need_small_number()
    cursor.leave()
    return ("query", ctes, body, order, limit, offset, place)


def _read_ctes(cursor):
    found = [_read_cte(cursor)]
    while cursor.take(","):
        found.append(_read_cte(cursor))
    return tuple(found)


def _read_cte(cursor):
    place = cursor.place()
    name = cursor.need("name")
    cursor.need("AS")
    return (name, read_bracketed_query(cursor), place)


def _read_body(cursor):
    place = cursor.place()
    tree = _read_meet(cursor)
    while cursor.what() in ("UNION", "EXCEPT"):
        word = cursor.need_one(("UNION", "EXCEPT"))
        every = cursor.take("ALL")
        tree = ("set", word.lower(), every, tree, _read_meet(cursor), place)
    return tree


def _read_meet(cursor):
    place = cursor.place()
    tree = _read_core(cursor)
    while cursor.take("INTERSECT"):
        every = cursor.take("ALL")
        tree = ("set", "intersect", every, tree, _read_core(cursor), place)
    return tree


def _read_core(cursor):
    place = cursor.place()
    if cursor.take("SELECT"):
        return _read_select(cursor, place)
    if cursor.take("VALUES"):
        return ("values", _read_rows(cursor), place)
    return read_bracketed_query(cursor)


def _read_rows(cursor):
    rows = [_read_row(cursor)]
    while cursor.take(","):
        rows.append(_read_row(cursor))
    return tuple(rows)


def _read_row(cursor):
    cursor.need("(")
    row = read_exprs(cursor)
    cursor.need(")")
    return row


def _read_select(cursor, place):
    distinct = cursor.take("DISTINCT")
    outs = _read_outs(cursor)
    sources = _read_sources(cursor) if cursor.take("FROM") else ()
    where = read_expr(cursor, EXPR) if cursor.take("WHERE") else None
    groups = None
    if cursor.take("GROUP"):
        cursor.need("BY")
        groups = read_exprs(cursor)
    having = read_expr(cursor, EXPR) if cursor.take("HAVING") else None
    return ("select", distinct, outs, sources, where, groups, having, place)


def _read_outs(cursor):
    place = cursor.place()
    if cursor.take("*"):
        return (("all", place),)
    outs = [_read_out(cursor)]
    while cursor.take(","):
        outs.append(_read_out(cursor))
    return tuple(outs)


def _read_out(cursor):
    place = cursor.place()
    if cursor.sees_all(("name", ".", "*")):
        name = cursor.need("name")
        cursor.skip()
        cursor.skip()
        return ("all", name, place)
    expr = read_expr(cursor, EXPR)
    return (expr, cursor.need("name") if cursor.take("AS") else None)


def _read_sources(cursor):
    sources = [_read_source(cursor)]
    while cursor.take(","):
        sources.append(_read_source(cursor))
    return tuple(sources)


def _read_source(cursor):
    place = cursor.place()
    tree = _read_base(cursor)
    while True:
        if cursor.take("CROSS"):
            cursor.need("JOIN")
            tree = ("joined", "cross", tree, _read_base(cursor), None, place)
        elif cursor.what() in ("JOIN", "INNER", "LEFT", "RIGHT", "FULL"):
            tree = _read_join(cursor, tree, place)
        else:
            return tree


def _read_join(cursor, left, place):
    kind = "inner"
    if not cursor.sees("JOIN"):
        kind = cursor.need_one(("INNER", "LEFT", "RIGHT", "FULL")).lower()
    cursor.need("JOIN")
    right = _read_base(cursor)
    cursor.need("ON")
    return ("joined", kind, left, right, read_expr(cursor, EXPR), place)


def _read_base(cursor):
    place = cursor.place()
    if cursor.sees("("):
        query = read_bracketed_query(cursor)
        cursor.take("AS")
        return ("sub", query, cursor.need("name"), place)
    name = cursor.need("name")
    if cursor.take("AS") or cursor.sees("name"):
        return ("table", name, cursor.need("name"), place)
    return ("table", name, name, place)
