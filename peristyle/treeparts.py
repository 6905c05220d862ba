"""The parts of the tree of a query ([4.4], [4.5])."""

MOST_LEVELS = 60
MOST_TUPLES = 5000


def parts_of(tree):
    """The queries, bodies, sources and expressions right below one of these."""
    word = tree[0]
    if word in ("query", "set", "values", "select"):
        return _query_parts(tree)
    if word == "sub":
        return [tree[1]]
    if word == "joined":
        return _there([tree[2], tree[3], tree[4]])
    if word in ("scalar", "exists"):
        return [tree[1]]
    if word == "in":
        return [tree[1], tree[2]]
    return expr_parts(tree)


def _query_parts(tree):
    word = tree[0]
    if word == "query":
        return [cte[1] for cte in tree[1]] + [tree[2]] + _ordered(tree[3])
    if word == "set":
        return [tree[3], tree[4]]
    if word == "values":
        return [expr for row in tree[1] for expr in row]
    _, _, outs, sources, where, groups, having, _ = tree
    exprs = [out[0] for out in outs if out[0] != "all"]
    return exprs + list(sources) + _there([where]) + list(groups or ()) + _there([having])


def expr_parts(tree):
    """The expressions right below an expression, from the left; none within nested queries."""
    word = tree[0]
    if word == "op":
        return list(tree[2])
    if word == "case":
        return [expr for pair in tree[1] for expr in pair] + [tree[2]]
    if word == "in":
        return [tree[1]]
    if word == "call":
        _, _, _, args, _, window, _ = tree
        return list(args) if window is None else list(args) + list(window[0]) + _ordered(window[1])
    return []


def _there(parts):
    return [part for part in parts if part is not None]


def _ordered(order):
    return [item[0] for item in order]


def is_too_large(tree):
    """Tell whether a tree is nested too deep or has too many tuples."""
    many = 0
    waiting = [(tree, 1)]
    # No recursion: a tree of a long sum is nested far too deep for it.
    while waiting:
        part, level = waiting.pop()
        many += 1
        if level > MOST_LEVELS or many > MOST_TUPLES:
            return True
        waiting.extend([(below, level + 1) for below in parts_of(part)])
    return False


def bare(tree):
    """A tree, or a part of one, without its places, and with the texts of literals as they are written."""
    if not isinstance(tree, tuple):
        return tree
    if tree and tree[0] == "lit" and len(tree) == 3 and not isinstance(tree[1], tuple):
        return ("lit", literal_text(tree[1]))
    if tree and isinstance(tree[0], str) and not _is_edge(tree):
        return tuple([bare(part) for part in tree[:-1]])
    return tuple([bare(part) for part in tree])


def literal_text(value):
    """How a literal is written."""
    if value is None:
        return "NULL"
    if isinstance(value, bool):
        # Python holds True and 1 for equal, but they are two literals.
        return "TRUE" if value else "FALSE"
    return "'" + value.replace("'", "''") + "'" if isinstance(value, str) else str(value)


def _is_edge(tree):
    # The only tuples of two parts that begin with these words; a cte of such a name has three.
    return len(tree) == 2 and tree[0] in ("start", "before", "here", "after", "end")
