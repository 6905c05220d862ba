"""Reading the expressions of a query ([4.3], [4.5])."""

from peristyle.callgrammar import read_call
from peristyle.errors import BadText
from peristyle.precedence import ATOM, BOTH, DENIAL, EXPR, PRODUCT, SIGN, SUM, TEST

COMPARISONS = {"=": "eq", "<>": "ne", "<": "lt", "<=": "le", ">": "gt", ">=": "ge"}
OPERATORS = {"OR": "or", "AND": "and", "+": "add", "-": "sub", "||": "cat", "*": "mul", "/": "div"}
TEST_WORDS = ("IS", "NOT", "BETWEEN", "LIKE", "IN")
CONSTANTS = {"TRUE": True, "FALSE": False, "NULL": None}


def op(name, args, place):
    """The tree of an operator."""
    return ("op", name, args, place)


def read_expr(cursor, level):
    """Read an expression that binds at least as tightly as the level."""
    tree, bound_by = _read_first(cursor, level)
    while True:
        strength = _strength(cursor.what())
        # What a test or NOT made is no sum, so only AND and OR may follow it.
        if strength < level or strength >= TEST >= bound_by:
            return tree
        tree = _read_rest(cursor, tree, strength)
        bound_by = strength


def _strength(what):
    """How tightly what stands behind an expression binds it, if it is an operator; otherwise 0."""
    if what in COMPARISONS or what in TEST_WORDS:
        return TEST
    if what in ("OR", "AND"):
        return EXPR if what == "OR" else BOTH
    if what in OPERATORS:
        return PRODUCT if what in ("*", "/") else SUM
    return 0


def read_exprs(cursor):
    """Read exprs: one or more, with commas between them."""
    found = [read_expr(cursor, EXPR)]
    while cursor.take(","):
        found.append(read_expr(cursor, EXPR))
    return tuple(found)


def read_items(cursor):
    """Read the items of ORDER BY."""
    found = [_read_item(cursor)]
    while cursor.take(","):
        found.append(_read_item(cursor))
    return tuple(found)


def _read_item(cursor):
    expr = read_expr(cursor, EXPR)
    desc = cursor.take("DESC")
    if not desc:
        cursor.take("ASC")
    if not cursor.take("NULLS"):
        return (expr, desc, desc)
    return (expr, desc, cursor.need_one(("FIRST", "LAST")) == "FIRST")


def _read_first(cursor, level):
    place = cursor.place()
    if cursor.sees("NOT") and level <= DENIAL:
        return op("not", (_read_nested(cursor, DENIAL),), place), DENIAL
    if cursor.sees("-"):
        return op("neg", (_read_nested(cursor, SIGN),), place), SIGN
    return _read_atom(cursor), ATOM


def _read_nested(cursor, level):
    cursor.enter(cursor.place())
    cursor.skip()
    tree = read_expr(cursor, level)
    cursor.leave()
    return tree


def _read_rest(cursor, left, strength):
    if strength == TEST:
        return _read_test(cursor, left)
    name = OPERATORS[cursor.what()]
    cursor.skip()
    return op(name, (left, read_expr(cursor, strength + 1)), left[-1])


def _read_test(cursor, left):
    what = cursor.what()
    if what in COMPARISONS:
        cursor.skip()
        return op(COMPARISONS[what], (left, read_expr(cursor, SUM)), left[-1])
    if what == "IS":
        return _read_is(cursor, left)
    turned = cursor.take("NOT")
    word = cursor.need_one(("BETWEEN", "LIKE", "IN"))
    if word == "IN":
        tree = _read_in(cursor, left)
    elif word == "LIKE":
        tree = op("like", (left, read_expr(cursor, SUM)), left[-1])
    else:
        tree = _read_between(cursor, left)
    return _turned_if(turned, tree)


def _turned_if(turned, tree):
    return op("not", (tree,), tree[-1]) if turned else tree


def _read_is(cursor, left):
    place = cursor.place()
    cursor.skip()
    turned = cursor.take("NOT")
    word = cursor.need_one(("NULL", "TRUE", "FALSE"))
    if word == "NULL":
        return _turned_if(turned, op("isnull", (left,), left[-1]))
    return _turned_if(turned, op("same", (left, ("lit", CONSTANTS[word], place)), left[-1]))


def _read_between(cursor, left):
    least = read_expr(cursor, SUM)
    cursor.need("AND")
    greatest = read_expr(cursor, SUM)
    return op("and", (op("ge", (left, least), left[-1]), op("le", (left, greatest), left[-1])), left[-1])


def _read_in(cursor, left):
    cursor.need("(")
    if cursor.sees_query():
        read_query = cursor.read_query
        tree = ("in", left, read_query(cursor), left[-1])
    else:
        cursor.enter_list()
        tree = _one_of(left, read_exprs(cursor))
        cursor.leave_list()
    cursor.need(")")
    return tree


def _one_of(left, exprs):
    tree = None
    for expr in exprs:
        equal = op("eq", (left, expr), left[-1])
        tree = equal if tree is None else op("or", (tree, equal), left[-1])
    return tree


def _read_atom(cursor):
    place = cursor.place()
    what = cursor.what()
    if what in ("number", "text"):
        return ("lit", cursor.need(what), place)
    if what in CONSTANTS:
        cursor.skip()
        return ("lit", CONSTANTS[what], place)
    if what == "name":
        return _read_named(cursor, place)
    if what == "(":
        return _read_brackets(cursor, place)
    if what == "EXISTS":
        cursor.skip()
        return ("exists", read_bracketed_query(cursor), place)
    if what == "CASE":
        return _read_case(cursor, place)
    raise BadText(place)


def read_bracketed_query(cursor):
    """Read a query in brackets, where nothing else may stand in them."""
    read_query = cursor.read_query
    cursor.need("(")
    tree = read_query(cursor)
    cursor.need(")")
    return tree


def _read_named(cursor, place):
    name = cursor.need("name")
    if cursor.sees("("):
        cursor.enter(place)
        tree = read_call(cursor, name, place, read_exprs, read_items)
        cursor.leave()
        return tree
    if cursor.take("."):
        return ("name", name, cursor.need("name"), place)
    return ("name", None, name, place)


def _read_brackets(cursor, place):
    if cursor.sees_query_behind():
        return ("scalar", read_bracketed_query(cursor), place)
    tree = _read_nested(cursor, EXPR)
    cursor.need(")")
    return tree


def _read_case(cursor, place):
    cursor.enter(place)
    cursor.skip()
    pairs = [_read_when(cursor)]
    while cursor.sees("WHEN"):
        pairs.append(_read_when(cursor))
    if cursor.take("ELSE"):
        other = read_expr(cursor, EXPR)
    else:
        other = ("lit", None, cursor.place())
    cursor.need("END")
    cursor.leave()
    return ("case", tuple(pairs), other, place)


def _read_when(cursor):
    cursor.need("WHEN")
    cond = read_expr(cursor, EXPR)
    cursor.need("THEN")
    return (cond, read_expr(cursor, EXPR))
