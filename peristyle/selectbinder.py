"""Binding a select ([5.3], [5.4])."""

from peristyle.calls import AGGS, NUMBERINGS, agg_calls, is_wrong, window_calls
from peristyle.errors import BadKind, BadName
from peristyle.exprbinder import bound_expr
from peristyle.operators import ANY
from peristyle.scope import Bound, Scope, Spot
from peristyle.shape import exprs_of, plans_of, put_in_node, rebuilt
from peristyle.sourcebinder import From


class Select:
    """A select while it is bound; order is an ORDER BY that is bound like its outs, or empty.

    Until it is settled, an expression behind the grouping has the columns of the FROM, and ("agg", i) and
    ("fun", i) for the calls: so it can be compared with the keys, as nothing that has a call in it is one.
    """

    def __init__(self, tree, order, setting):
        _, self.distinct, self.out_trees, sources, self.where, self.groups, self.having, _ = tree
        self.order_trees = [item[0] for item in order]
        self.setting = setting
        self.plan, self.sources = From(setting).bound(sources)
        self.scope = Scope(self.sources)
        self.calls = {}
        self.aggs = []
        self.funs = []
        self.width = len(self.scope.kinds)
        self.exprs = []
        self.names = []
        self.kinds = []

    def bind(self):
        """Bind all but ORDER BY."""
        if self.where is not None:
            self.plan = ("where", self.whole(self.where, {}, "bool")[0], self.plan)
        self.bind_groups()
        if self.having is not None:
            self.plan = ("where", self.settled_whole(self.having, self.calls, "bool")[0], self.plan)
        self.bind_windows()
        for out in self.out_trees:
            self.bind_out(out)

    def whole(self, tree, calls, wanted):
        """An expression, and its kind, that may have these calls in it; not yet settled."""
        return bound_expr(tree, Spot(self.scope, self.setting, calls), wanted)

    def settled_whole(self, tree, calls, wanted):
        """The same, settled: for the row behind the grouping and the windows."""
        expr, kind = self.whole(tree, calls, wanted)
        return self.settled(expr), kind

    def out_exprs(self):
        """The trees of the outs that are expressions."""
        return [out[0] for out in self.out_trees if out[0] != "all"]

    def bind_groups(self):
        """Bind GROUP BY and the calls without OVER, if there are any."""
        group_keys = [self.whole(tree, {}, ANY)[0] for tree in self.groups or ()]
        calls = [call for tree in self.out_exprs() for call in agg_calls(tree, True)]
        if self.having is not None:
            calls.extend(agg_calls(self.having, False))
        calls.extend([call for tree in self.order_trees for call in agg_calls(tree, True)])
        if self.groups is None and self.having is None and not calls:
            return
        for call in calls:
            if call[-1] not in self.calls:
                self.calls[call[-1]] = self.bound_agg(call)
        self.plan = ("group", tuple(group_keys), tuple(self.aggs), self.plan)
        self.scope.group_keys = group_keys
        self.width = len(group_keys) + len(self.aggs)

    def bound_agg(self, call):
        """What stands for a call without OVER, and its kind."""
        _, name, distinct, args, star, _, place = call
        if is_wrong(call):
            raise BadKind(place)
        if star:
            return ("agg", _index_in(self.aggs, ("rows", False, None))), "int"
        arg, kind = self.whole(args[0], {}, AGGS[name])
        return ("agg", _index_in(self.aggs, (name, distinct, arg))), "int" if name == "count" else kind

    def bind_windows(self):
        """Bind the calls with OVER, if there are any."""
        # What stands for the calls with OVER must not be seen inside of others.
        inside = dict(self.calls)
        for tree in self.out_exprs() + self.order_trees:
            for call in window_calls(tree):
                if call[-1] not in self.calls:
                    self.calls[call[-1]] = self.bound_fun(call, inside)
        if self.funs:
            self.plan = ("window", tuple(self.funs), self.plan)

    def bound_fun(self, call, inside):
        """What stands for a call with OVER, and its kind."""
        _, name, _, args, star, window, place = call
        if is_wrong(call):
            raise BadKind(place)
        arg, kind = None, "int"
        if args:
            arg, kind = self.settled_whole(args[0], inside, AGGS.get(name, ANY))
        partition = [self.settled_whole(tree, inside, ANY)[0] for tree in window[0]]
        order = [(self.settled_whole(tree, inside, ANY)[0], desc, first) for tree, desc, first in window[1]]
        fun = ("rows" if star else name, arg, tuple(partition), tuple(order), window[2])
        return ("fun", _index_in(self.funs, fun)), "int" if name == "count" or name in NUMBERINGS else kind

    def settled(self, expr):
        """The expression for the row behind the grouping and the windows."""
        scope = self.scope
        if scope.is_key(expr):
            return ("col", scope.group_keys.index(expr))
        if expr[0] == "agg":
            return ("col", len(scope.group_keys) + expr[1])
        if expr[0] == "fun":
            return ("col", self.width + expr[1])
        exprs = [self.settled(part) for part in exprs_of(expr)]
        return rebuilt(expr, exprs, [self.settled_plan(plan) for plan in plans_of(expr)])

    def settled_plan(self, plan):
        """A plan in an expression, settled: each name of this FROM in it is itself a key."""
        if self.scope.group_keys is None:
            return plan
        return put_in_node(plan, 1, lambda index: ("col", self.scope.group_keys.index(("col", index))))

    def bind_out(self, out):
        """Bind an out; all its columns are added."""
        if out[0] != "all":
            tree, name = out
            expr, kind = self.settled_whole(tree, self.calls, ANY)
            if name is None:
                name = tree[2] if tree[0] == "name" else f"c{len(self.exprs) + 1}"
            self.add(expr, kind, name)
            return
        if not self.sources or (len(out) == 3 and not self.scope.has_source(out[1])):
            raise BadName(out[-1])
        indexes = list(range(len(self.scope.kinds))) if len(out) == 2 else self.scope.columns_of(out[1])
        for index in indexes:
            self.scope.note(index, out[-1], [])
            self.scope.refuse_left_over([])
            self.add(self.settled(("col", index)), self.scope.kinds[index], self.scope.names[index])

    def add(self, expr, kind, name):
        """Add a column."""
        self.exprs.append(expr)
        self.kinds.append(kind)
        self.names.append(name)

    def told(self):
        """What is bound, without ORDER BY."""
        plan = ("select", tuple(self.exprs), self.plan)
        return Bound(("distinct", plan) if self.distinct else plan, self.names, self.kinds)

    def ordered(self, order, limit, offset):
        """What is bound if there is an ORDER BY that is bound like the outs."""
        many = len(self.names)
        exprs = list(self.exprs)
        items = []
        for tree, desc, first in order:
            index = called_so(tree, self.names)
            if index is None:
                index = _index_in(exprs, self.settled_whole(tree, self.calls, ANY)[0])
            items.append((("col", index), desc, first))
        plan = ("top", tuple(items), limit, offset, ("select", tuple(exprs), self.plan))
        if len(exprs) > many:
            plan = ("select", tuple([("col", index) for index in range(many)]), plan)
        return Bound(plan, self.names, self.kinds)


def _index_in(things, thing):
    """The index of the first equal thing in a list; if there is none, it is added."""
    if thing not in things:
        things.append(thing)
    return things.index(thing)


def called_so(tree, names):
    """The index of the one out that an expression names, or None."""
    if tree[0] == "name" and tree[1] is None and names.count(tree[2]) == 1:
        return names.index(tree[2])
    return None
