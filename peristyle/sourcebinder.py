"""Binding the FROM of a select ([5.2], [5.3])."""

from peristyle.errors import BadName
from peristyle.exprbinder import bound_expr, const
from peristyle.limits import check_limits
from peristyle.scope import Scope, Source, Spot

ONE_ROW = ("rows", (), ((),))


class From:
    """The sources of a FROM while they are bound."""

    def __init__(self, setting):
        self.setting = setting
        self.taken = {}

    def bound(self, trees):
        """The plan of all sources, and a list of them."""
        if not trees:
            return ONE_ROW, []
        plan, sources = self.one(trees[0])
        for tree in trees[1:]:
            right, more = self.one(tree)
            plan = ("join", "inner", const("bool", True), plan, right)
            self.check(plan)
            sources = sources + more
        return plan, sources

    def one(self, tree):
        """The plan of one source, and a list of the sources in it."""
        if tree[0] == "joined":
            plan, sources = self.joined(tree)
        else:
            self.take(tree[2], tree[3])
            plan, sources = self.table(tree) if tree[0] == "table" else self.sub(tree)
        self.check(plan)
        return plan, sources

    def check(self, plan):
        """Refuse the plan so far if it is too much."""
        check_limits(plan, self.setting.tables)

    def take(self, name, place):
        """Refuse a name that an earlier source of the FROM has."""
        if name in self.taken:
            raise BadName(place)
        self.taken[name] = True

    def table(self, tree):
        """A query of WITH or a table."""
        _, table, name, place = tree
        setting = self.setting
        if table in setting.ctes:
            cte = setting.ctes[table]
            return cte.plan_at(len(setting.scopes)), [Source(name, cte.bound.names, cte.bound.kinds)]
        if table not in setting.tables:
            raise BadName(place)
        columns = setting.tables[table][1]
        return ("scan", table), [Source(name, [told[0] for told in columns], [told[1] for told in columns])]

    def sub(self, tree):
        """A query in brackets."""
        bind_query = self.setting.bind_query
        inner = bind_query(tree[1], self.setting)
        return inner.plan, [Source(tree[2], inner.names, inner.kinds)]

    def joined(self, tree):
        """A join; its ON sees the sources of its own chain alone."""
        _, kind, left, right, on, _ = tree
        left_plan, sources = self.one(left)
        right_plan, more = self.one(right)
        sources = sources + more
        if on is None:
            return ("join", "inner", const("bool", True), left_plan, right_plan), sources
        cond, _ = bound_expr(on, Spot(Scope(sources), self.setting, {}), "bool")
        return ("join", kind, cond, left_plan, right_plan), sources
