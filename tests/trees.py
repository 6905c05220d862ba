"""What the tests of queries share: trees with shorter places, and mistakes with theirs."""

from peristyle.errors import BadKind, BadName, BadText, TooMuch
from peristyle.grammar import parse

EDGES = ("start", "before", "here", "after", "end")


def is_edge(tree):
    return len(tree) == 2 and tree[0] in EDGES and isinstance(tree[1], int)


def without_places(tree):
    """A tree without its places; truth values are told from numbers."""
    if isinstance(tree, bool):
        return str(tree)
    if not isinstance(tree, tuple) or is_edge(tree):
        return tree
    if tree and isinstance(tree[0], str):
        assert type(tree[-1]) is int, tree
        return tuple([without_places(part) for part in tree[:-1]])
    return tuple([without_places(part) for part in tree])


def shifted(tree, by):
    """A tree with all its places made less."""
    if not isinstance(tree, tuple) or is_edge(tree):
        return tree
    if tree and isinstance(tree[0], str):
        return tuple([shifted(part, by) for part in tree[:-1]]) + (tree[-1] - by,)
    return tuple([shifted(part, by) for part in tree])


def expr_tree(text):
    """The tree of an expression, with its places counted from its beginning."""
    tree = parse("SELECT " + text)
    select = tree[2]
    assert len(select[2]) == 1 and select[2][0][1] is None
    return shifted(select[2][0][0], 7)


def outcome(do, *args):
    """What a call tells, or the name of its mistake with its place."""
    try:
        return do(*args)
    except (BadText, BadName, BadKind) as mistake:
        assert type(mistake) in (BadText, BadName, BadKind)
        return (type(mistake).__name__, mistake.at)
    except TooMuch:
        return "TooMuch"
