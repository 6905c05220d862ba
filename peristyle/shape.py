"""The shape of plans and expressions: which parts a right one has, and how it looks with other parts."""

PLAN_WORDS = ("scan", "rows", "where", "select", "join", "group", "distinct", "union", "except", "meet", "window",
              "top")
EXPR_WORDS = ("col", "outer", "const", "op", "case", "scalar", "exists", "in")

TRUE = ("const", "bool", True)
FALSE = ("const", "bool", False)

# How many plans stand at the end of the tuple of a plan or an expression.
PLANS_AT_END = {
    "where": 1, "select": 1, "join": 2, "group": 1, "distinct": 1, "union": 2, "except": 2, "meet": 2,
    "window": 1, "top": 1, "scalar": 1, "exists": 1, "in": 1,
}


def is_plan(node):
    """Tell whether a node, a plan or an expression, is a plan."""
    return node[0] in PLAN_WORDS


def plans_of(node):
    """The plans right below a node."""
    many = PLANS_AT_END.get(node[0], 0)
    return list(node[len(node) - many:])


def exprs_of(node):
    """The expressions right below a node, from the left."""
    word = node[0]
    if word in ("where", "in"):
        return [node[1]]
    if word == "join":
        return [node[2]]
    if word == "select":
        return list(node[1])
    if word == "op":
        return list(node[2])
    if word == "case":
        return [expr for pair in node[1] for expr in pair] + [node[2]]
    if word == "group":
        return list(node[1]) + [arg for _, _, arg in node[2] if arg is not None]
    if word == "window":
        return [expr for fun in node[1] for expr in _fun_exprs(fun)]
    if word == "top":
        return [item[0] for item in node[1]]
    return []


def _fun_exprs(fun):
    _, arg, partition, order, _ = fun
    return ([] if arg is None else [arg]) + list(partition) + [item[0] for item in order]


def has_plans(expr):
    """Tell whether an expression has plans in it."""
    return len(plans_of(expr)) > 0 or any([has_plans(part) for part in exprs_of(expr)])


class Supply:
    """Expressions that are handed out one after the other, in the order of exprs_of."""

    def __init__(self, exprs):
        self.exprs = exprs
        self.used = 0

    def one(self):
        """The next one."""
        self.used += 1
        return self.exprs[self.used - 1]

    def like(self, expr):
        """The next one, but None for None."""
        return None if expr is None else self.one()

    def several(self, many):
        """A tuple of the next ones."""
        return tuple([self.one() for _ in range(many)])

    def order(self, items):
        """The items with the next ones."""
        return tuple([(self.one(), desc, nullsfirst) for _, desc, nullsfirst in items])

    def fun(self, told):
        """The function of a window with the next ones."""
        name, arg, partition, order, frame = told
        return (name, self.like(arg), self.several(len(partition)), self.order(order), frame)


def rebuilt(node, exprs, plans):
    """The node with other expressions and plans right below it, as many as before."""
    word = node[0]
    below = tuple(plans)
    if word in ("where", "in"):
        return (word, exprs[0], *below)
    if word == "join":
        return (word, node[1], exprs[0], *below)
    if word == "select":
        return (word, tuple(exprs), *below)
    if word == "op":
        return (word, node[1], tuple(exprs))
    if word in ("case", "group", "window", "top"):
        return _rebuilt_of_several(node, Supply(exprs), below)
    return (word, *below) if below else node


def _rebuilt_of_several(node, supply, below):
    word = node[0]
    if word == "case":
        pairs = tuple([supply.several(2) for _ in node[1]])
        return (word, pairs, supply.one())
    if word == "group":
        grouped = supply.several(len(node[1]))
        return (word, grouped, tuple([(name, distinct, supply.like(arg)) for name, distinct, arg in node[2]]), *below)
    if word == "window":
        return (word, tuple([supply.fun(told) for told in node[1]]), *below)
    return (word, supply.order(node[1]), node[2], node[3], *below)


def changed(node, level, change):
    """A plan or an expression in which each column and outer is changed by change(leaf, level).

    The level tells in how many plans of expressions the leaf stands, counted from the given one.
    """
    if node[0] in ("col", "outer"):
        return change(node, level)
    below = level if is_plan(node) else level + 1
    exprs = [changed(expr, level, change) for expr in exprs_of(node)]
    plans = [changed(plan, below, change) for plan in plans_of(node)]
    return rebuilt(node, exprs, plans)


def leaves(node, level):
    """All columns and outers in a plan or an expression, as pairs (leaf, level)."""
    found = []
    waiting = [(node, level)]
    while waiting:
        part, depth = waiting.pop()
        if part[0] in ("col", "outer"):
            found.append((part, depth))
        below = depth if is_plan(part) else depth + 1
        waiting.extend([(expr, depth) for expr in exprs_of(part)])
        waiting.extend([(plan, below) for plan in plans_of(part)])
    return found


def scanned(node):
    """The names of the tables that a plan or an expression scans, each once."""
    found = {}
    waiting = [node]
    while waiting:
        part = waiting.pop()
        if part[0] == "scan":
            found[part[1]] = True
        waiting.extend(exprs_of(part) + plans_of(part))
    return list(found)


def lifted(node, by, own):
    """A plan or an expression that stands further in by so many queries, where it means what it meant.

    Own tells whether its row is one of those that are further away now, which is so for expressions alone.
    """
    if by == 0:
        return node

    def change(leaf, level):
        if leaf[0] == "col":
            return ("outer", by, leaf[1]) if own and level == 0 else leaf
        if leaf[1] > level or (own and leaf[1] == level):
            return ("outer", leaf[1] + by, leaf[2])
        return leaf

    return changed(node, 0, change)


def put_in_node(node, level, put):
    """The node with put(i) for each column i of the row that is so many levels around it."""
    def change(leaf, depth):
        if leaf[0] == "col":
            return put(leaf[1]) if depth == 0 else leaf
        return lifted(put(leaf[2]), depth, True) if leaf[1] == depth else leaf

    return changed(node, level, change)
