"""Printing the tree of a query ([4.7])."""

from peristyle.errors import TooMuch
from peristyle.exprprinter import expr_text, exprs_text, items_text
from peristyle.grammar import LONGEST_QUERY
from peristyle.precedence import EXPR
from peristyle.treeparts import bare


def printed(tree):
    """A text that is read as the tree, but for the places."""
    text = _query_text(bare(tree))
    if len(text) > LONGEST_QUERY:
        raise TooMuch()
    return text


def _query_text(tree):
    _, ctes, body, order, limit, offset = tree
    parts = []
    if ctes:
        parts.append("WITH " + ", ".join([f"{name} AS ({_query_text(query)})" for name, query in ctes]))
    parts.append(_body_text(body))
    if order:
        parts.append("ORDER BY " + items_text(order, _query_text))
    if limit is not None:
        parts.append(f"LIMIT {limit}")
    if offset:
        parts.append(f"OFFSET {offset}")
    return " ".join(parts)


def _body_text(tree):
    word = tree[0]
    if word == "query":
        return f"({_query_text(tree)})"
    if word == "values":
        return "VALUES " + ", ".join([f"({exprs_text(row, _query_text)})" for row in tree[1]])
    if word == "set":
        _, name, every, left, right = tree
        return f"{_body_text(left)} {name.upper()}{' ALL' if every else ''} {_body_text(right)}"
    return _select_text(tree)


def _select_text(tree):
    _, distinct, outs, sources, where, groups, having = tree
    parts = ["SELECT DISTINCT" if distinct else "SELECT", ", ".join([_out_text(out) for out in outs])]
    if sources:
        parts.append("FROM " + ", ".join([_source_text(source) for source in sources]))
    if where is not None:
        parts.append("WHERE " + expr_text(where, EXPR, _query_text))
    if groups is not None:
        parts.append("GROUP BY " + exprs_text(groups, _query_text))
    if having is not None:
        parts.append("HAVING " + expr_text(having, EXPR, _query_text))
    return " ".join(parts)


def _out_text(out):
    if out == ("all",):
        return "*"
    if out[0] == "all":
        return f"{out[1]}.*"
    expr, name = out
    text = expr_text(expr, EXPR, _query_text)
    return text if name is None else f"{text} AS {name}"


def _source_text(source):
    if source[0] == "table":
        _, table, name = source
        return table if table == name else f"{table} AS {name}"
    if source[0] == "sub":
        return f"({_query_text(source[1])}) AS {source[2]}"
    _, kind, left, right, on = source
    text = f"{_source_text(left)} {kind.upper()} JOIN {_source_text(right)}"
    return text if on is None else f"{text} ON {expr_text(on, EXPR, _query_text)}"
