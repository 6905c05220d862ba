"""Printing the expressions of a query, as trees without places ([4.7]).

Of all texts of an expression that one is chosen in which the fewest things of [4.4] are nested: a text that
was read has at least as many, so what is printed can be read again. For the same reason, and so that what
IN and BETWEEN wrote twice is not, they stand wherever they can.
"""

from peristyle.precedence import ATOM, BOTH, DENIAL, EXPR, PRODUCT, SIGN, SUM, TEST

SIGNS = {
    "or": "OR", "and": "AND", "eq": "=", "ne": "<>", "lt": "<", "le": "<=", "gt": ">", "ge": ">=",
    "add": "+", "sub": "-", "cat": "||", "mul": "*", "div": "/",
}
EDGES = {
    "start": "UNBOUNDED PRECEDING", "before": "PRECEDING", "here": "CURRENT ROW",
    "after": "FOLLOWING", "end": "UNBOUNDED FOLLOWING",
}


def expr_text(tree, level, query_text):
    """The text of an expression where it must bind at least as tightly as the level."""
    write = WRITERS[tree[0]]
    text = write(tree, query_text)
    return text if _binding(tree) >= level else f"({text})"


def exprs_text(trees, query_text):
    """The text of exprs."""
    return ", ".join([expr_text(tree, EXPR, query_text) for tree in trees])


def items_text(items, query_text):
    """The text of the items of ORDER BY."""
    return ", ".join([_item_text(item, query_text) for item in items])


def _item_text(item, query_text):
    expr, desc, nullsfirst = item
    text = expr_text(expr, EXPR, query_text) + (" DESC" if desc else "")
    if nullsfirst == desc:
        return text
    return text + (" NULLS FIRST" if nullsfirst else " NULLS LAST")


def _binding(tree):
    if tree[0] != "op":
        return TEST if tree[0] == "in" else ATOM
    if tree[1] == "not":
        return TEST if _is_test(tree[2][0]) else DENIAL
    if tree[1] == "neg":
        return SIGN
    if _is_test(tree):
        return TEST
    return _sign_binding(tree[1]) if tree[1] in SIGNS else ATOM


def _sign_binding(name):
    if name in ("or", "and"):
        return EXPR if name == "or" else BOTH
    if name in ("mul", "div"):
        return PRODUCT
    return SUM if name in ("add", "sub", "cat") else TEST


def _is_op(tree, name):
    return tree[0] == "op" and tree[1] == name


def _is_test(tree):
    """Tell whether IS, IN, BETWEEN or LIKE can write the tree, and so NOT before that word its denial."""
    if tree[0] != "op":
        return tree[0] == "in"
    return tree[1] in ("isnull", "same", "like") or _is_between(tree) or len(_listed(tree)) > 0


def _is_between(tree):
    if not _is_op(tree, "and"):
        return False
    low, high = tree[2]
    return _is_op(low, "ge") and _is_op(high, "le") and low[2][0] == high[2][0]


def _listed(tree):
    """The pairs of sides of the equalities that a list of IN stands for; none if the tree is no such."""
    pairs = []
    while _is_op(tree, "or") and _is_op(tree[2][1], "eq"):
        pairs.append(tree[2][1][2])
        tree = tree[2][0]
    if not _is_op(tree, "eq"):
        return []
    pairs.append(tree[2])
    first = pairs[0][0]
    return list(reversed(pairs)) if all([pair[0] == first for pair in pairs]) else []


def _literal_text(tree, query_text):
    return tree[1]


def _name_text(tree, query_text):
    return tree[2] if tree[1] is None else f"{tree[1]}.{tree[2]}"


def _scalar_text(tree, query_text):
    return f"({query_text(tree[1])})"


def _exists_text(tree, query_text):
    return f"EXISTS ({query_text(tree[1])})"


def _case_text(tree, query_text):
    parts = ["CASE"]
    for cond, value in tree[1]:
        parts.append(f"WHEN {expr_text(cond, EXPR, query_text)} THEN {expr_text(value, EXPR, query_text)}")
    if tree[2] != ("lit", "NULL"):
        parts.append(f"ELSE {expr_text(tree[2], EXPR, query_text)}")
    return " ".join(parts + ["END"])


def _call_text(tree, query_text):
    _, name, distinct, args, star, window = tree
    inside = "*" if star else ("DISTINCT " if distinct else "") + exprs_text(args, query_text)
    text = f"{name}({inside})"
    return text if window is None else f"{text} OVER ({_window_text(window, query_text)})"


def _window_text(window, query_text):
    partition, order, frame = window
    parts = []
    if partition:
        parts.append("PARTITION BY " + exprs_text(partition, query_text))
    if order:
        parts.append("ORDER BY " + items_text(order, query_text))
    if frame is not None:
        parts.append(f"ROWS BETWEEN {_edge_text(frame[0])} AND {_edge_text(frame[1])}")
    return " ".join(parts)


def _edge_text(edge):
    return f"{edge[1]} {EDGES[edge[0]]}" if edge[0] in ("before", "after") else EDGES[edge[0]]


def _operator_text(tree, query_text):
    _, name, args = tree
    if name == "not":
        if _is_test(args[0]):
            return _test_text(args[0], query_text, "NOT ")
        return "NOT " + expr_text(args[0], DENIAL, query_text)
    if name == "neg":
        return "-" + expr_text(args[0], SIGN, query_text)
    if _is_test(tree) and not _needs_no_list(tree):
        return _test_text(tree, query_text)
    if name in SIGNS:
        level = _sign_binding(name)
        # Chains lean to the left, but there are none of comparisons.
        left, right = (SUM, SUM) if level == TEST else (level, level + 1)
        return f"{expr_text(args[0], left, query_text)} {SIGNS[name]} {expr_text(args[1], right, query_text)}"
    return f"{name}({exprs_text(args, query_text)})"


def _needs_no_list(tree):
    # In a list of IN the second side stands without brackets of its own.
    return tree[1] == "eq" and _binding(tree[2][1]) >= SUM


def _test_text(tree, query_text, turned=""):
    """The text of a test by IS, IN, BETWEEN or LIKE, if need be with NOT before that word."""
    if tree[0] == "in":
        return f"{expr_text(tree[1], SUM, query_text)} {turned}IN ({query_text(tree[2])})"
    if tree[1] in ("or", "eq"):
        listed = _listed(tree)
        exprs = exprs_text([pair[1] for pair in listed], query_text)
        return f"{expr_text(listed[0][0], SUM, query_text)} {turned}IN ({exprs})"
    if tree[1] == "and":
        low, high = tree[2]
        edges = f"{expr_text(low[2][1], SUM, query_text)} AND {expr_text(high[2][1], SUM, query_text)}"
        return f"{expr_text(low[2][0], SUM, query_text)} {turned}BETWEEN {edges}"
    first = expr_text(tree[2][0], SUM, query_text)
    if tree[1] == "like":
        return f"{first} {turned}LIKE {expr_text(tree[2][1], SUM, query_text)}"
    return f"{first} IS {turned}{'NULL' if tree[1] == 'isnull' else tree[2][1][1]}"


WRITERS = {
    "lit": _literal_text,
    "name": _name_text,
    "op": _operator_text,
    "in": _test_text,
    "scalar": _scalar_text,
    "exists": _exists_text,
    "case": _case_text,
    "call": _call_text,
}
