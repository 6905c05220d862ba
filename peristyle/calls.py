"""The calls of a select: which are right as a whole, and where they stand ([5.3], [5.5])."""

from peristyle.treeparts import expr_parts

# The kind that the argument must have; "any" as for the operators.
AGGS = {"count": "any", "sum": "int", "avg": "int", "min": "any", "max": "any", "every": "bool", "some": "bool"}
NUMBERINGS = ("rank", "dense", "place")
NEIGHBOURS = ("lag", "lead")
EDGES = ("start", "before", "here", "after", "end")


def is_agg(tree):
    """Tell whether an expression is a call of [5.5] without OVER."""
    return tree[0] == "call" and tree[5] is None and tree[1] in AGGS


def is_wrong(call):
    """Tell whether a call is refused as a whole, wherever it stands."""
    _, name, distinct, args, star, window, _ = call
    if name in AGGS:
        if star:
            is_one = name == "count"
        else:
            is_one = len(args) == 1 and not (distinct and window is not None)
        return not is_one or (window is not None and _is_wrong_frame(window[2]))
    if window is None or distinct or star or window[2] is not None:
        return True
    return not (name in NUMBERINGS and not args or name in NEIGHBOURS and len(args) == 1)


def _is_wrong_frame(frame):
    if frame is None:
        return False
    first, second = frame
    return first[0] == "end" or second[0] == "start" or _edge_place(first) > _edge_place(second)


def _edge_place(edge):
    word, number = edge
    return (EDGES.index(word), -number if word == "before" else number)


def agg_calls(tree, enter_windows):
    """The calls without OVER of the select in an expression, from the left.

    What is refused as a whole is not entered: it is refused before its arguments are looked at.
    """
    if is_agg(tree):
        return [tree]
    if tree[0] == "call" and (not enter_windows or is_wrong(tree)):
        return []
    below = enter_windows and tree[0] != "call"
    return [call for part in expr_parts(tree) for call in agg_calls(part, below)]


def window_calls(tree):
    """The outermost calls with OVER in an expression, from the left."""
    if tree[0] == "call":
        return [tree] if tree[5] is not None else []
    return [call for part in expr_parts(tree) for call in window_calls(part)]
