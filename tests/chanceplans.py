"""Right plans, and tables that fit the schemas, by chance."""

from peristyle.plan import kinds
from peristyle.errors import TooMuch
from tests.plans import SCHEMAS

VALUES = {"int": [0, 1, 2, 3], "text": ["", "x", "7", "q"], "bool": [True, False]}
UNARY = {"int": [("neg", "int"), ("abs", "int"), ("size", "text"), ("number", "text")],
         "text": [("upper", "text"), ("words", "int")], "bool": [("not", "bool")]}
BINARY = {"int": [("add", "int"), ("sub", "int"), ("div", "int"), ("mod", "int"), ("mul", "int")], "text": [("cat", "text")],
          "bool": [("and", "bool"), ("or", "bool"), ("like", "text")]}
ALIKE = {"bool": ["eq", "ne", "lt", "le", "gt", "ge", "same"], None: ["coalesce", "nullif", "most", "least"]}
EDGES = ["start", "before", "here", "after", "end"]


class Chance:
    """Makes plans; around are the kinds of the rows of the queries around."""

    def __init__(self, rng, schemas=SCHEMAS):
        self.rng = rng
        self.schemas = schemas

    def pick(self, things):
        return self.rng.choice(list(things))

    def value(self, kind):
        return None if self.rng.random() < 0.2 else self.pick(VALUES[kind])

    def plan(self, depth, around=()):
        """A plan and the kinds of its columns."""
        rng = self.rng
        if depth <= 0:
            if rng.random() < 0.75:
                schema = self.pick(self.schemas)
                return ("scan", schema[0]), tuple(kind for _, kind, _ in schema[1])
            told = tuple(self.pick(VALUES) for _ in range(rng.randrange(1, 4)))
            rows = tuple(tuple(self.value(kind) for kind in told) for _ in range(rng.randrange(4)))
            return ("rows", told, rows), told
        word = self.pick(["where", "select", "join", "join", "join", "group", "distinct", "union", "except", "meet", "window", "top", "select"])
        if word == "join":
            return self.join(depth, around)
        if word in ("union", "except", "meet"):
            left, told = self.plan(depth - 1, around)
            right = self.like(told, depth - 1, around)
            return (word, left, right), told
        inner, told = self.plan(depth - 1, around)
        if word == "where":
            return ("where", self.expr("bool", told, around, 2), inner), told
        if word == "select":
            return self.select(inner, told, around)
        if word == "distinct":
            return ("distinct", inner), told
        if word == "group":
            return self.group(inner, told, around)
        if word == "window":
            funs = [self.fun(told, around) for _ in range(rng.randrange(3))]
            return ("window", tuple(fun for fun, _ in funs), inner), told + tuple(kind for _, kind in funs)
        limit = self.pick([None, None, 0, 1, 2, 5])
        return ("top", self.order(told, around), limit, rng.randrange(3), inner), told

    def like(self, wanted, depth, around):
        """A plan with columns of these kinds."""
        inner, told = self.plan(depth, around)
        return ("select", tuple(self.expr(kind, told, around, 1) for kind in wanted), inner)

    def select(self, inner, told, around):
        if told and self.rng.random() < 0.4:
            places = [self.rng.randrange(len(told)) for _ in range(self.rng.randrange(1, 5))]
            return ("select", tuple(("col", place) for place in places), inner), tuple(told[place] for place in places)
        wanted = tuple(self.pick(VALUES) for _ in range(self.rng.randrange(1, 4)))
        return ("select", tuple(self.expr(kind, told, around, 2) for kind in wanted), inner), wanted

    def join(self, depth, around):
        left, left_kinds = self.plan(depth - 1, around)
        right, right_kinds = self.plan(self.rng.randrange(depth), around)
        kind = self.pick(["inner", "inner", "left", "left", "right", "full", "semi", "anti"])
        row = left_kinds + right_kinds
        cond = self.expr("bool", row, around, 1)
        for _ in range(self.rng.randrange(3)):
            pairs = [(one, other) for one in range(len(left_kinds)) for other in range(len(left_kinds), len(row)) if row[one] == row[other]]
            if pairs:
                one, other = self.pick(pairs)
                equal = ("op", "eq", (("col", one), ("col", other))[::self.pick([1, -1])])
                cond = self.pick([equal, ("op", "and", (cond, equal)), ("op", "and", (equal, cond))])
        return ("join", kind, cond, left, right), left_kinds if kind in ("semi", "anti") else row

    def group(self, inner, told, around):
        keys = [(kind, self.expr(kind, told, around, self.rng.randrange(2))) for kind in [self.pick(VALUES) for _ in range(self.rng.randrange(3))]]
        aggs, agg_kinds = [], []
        for _ in range(self.rng.randrange(3)):
            name, arg, kind = self.agg(told, around)
            aggs.append((name, name != "rows" and self.rng.random() < 0.3, arg))
            agg_kinds.append(kind)
        return ("group", tuple(key for _, key in keys), tuple(aggs), inner), tuple(kind for kind, _ in keys) + tuple(agg_kinds)

    def agg(self, told, around):
        name = self.pick(["rows", "count", "sum", "avg", "min", "max", "every", "some"])
        if name == "rows":
            return name, None, "int"
        kind = {"sum": "int", "avg": "int", "every": "bool", "some": "bool"}.get(name) or self.pick(VALUES)
        return name, self.expr(kind, told, around, 1), "int" if name == "count" else kind

    def fun(self, told, around):
        rng = self.rng
        name = self.pick(["place", "rank", "dense", "lag", "lead", "agg", "agg", "agg"])
        arg, kind, frame = None, "int", None
        if name == "agg":
            name, arg, kind = self.agg(told, around)
            if rng.random() < 0.5:
                frame = tuple((word, rng.randrange(3) if word in ("before", "after") else 0) for word in (self.pick(EDGES), self.pick(EDGES)))
        elif name in ("lag", "lead"):
            kind = self.pick(VALUES)
            arg = self.expr(kind, told, around, 1)
        partition = tuple(self.expr(self.pick(VALUES), told, around, 0) for _ in range(rng.randrange(2)))
        return (name, arg, partition, self.order(told, around), frame), kind

    def order(self, told, around):
        return tuple((self.expr(self.pick(VALUES), told, around, self.rng.randrange(2)), self.pick([True, False]), self.pick([True, False]))
                     for _ in range(self.rng.randrange(3)))

    def expr(self, kind, row, around, depth):
        rng = self.rng
        columns = [("col", place) for place, told in enumerate(row) if told == kind]
        outers = [("outer", level + 1, place) for level, told in enumerate(around) for place, other in enumerate(told) if other == kind]
        if depth <= 0 or rng.random() < 0.25:
            leaves = columns * 3 + outers * 2 + [("const", kind, self.value(kind))]
            return self.pick(leaves)
        told = rng.random()
        if told < 0.12:
            pairs = tuple((self.expr("bool", row, around, depth - 1), self.expr(kind, row, around, depth - 1)) for _ in range(rng.randrange(1, 3)))
            return ("case", pairs, self.expr(kind, row, around, depth - 1))
        if told < 0.25 and len(around) < 2:
            inside = (row,) + tuple(around)
            if kind == "bool" and rng.random() < 0.5:
                return ("exists", self.plan(rng.randrange(2), inside)[0])
            wanted = self.pick(VALUES) if kind == "bool" else kind
            plan = self.like((wanted,), rng.randrange(2), inside)
            if kind == "bool":
                return ("in", self.expr(wanted, row, around, depth - 1), plan)
            if rng.random() < 0.6:
                plan = ("group", (), (("max", False, ("col", 0)),), plan)
            return ("scalar", plan)
        if told < 0.4:
            name, other = self.pick(UNARY[kind])
            return ("op", name, (self.expr(other, row, around, depth - 1),))
        if told < 0.5:
            return ("op", self.pick(ALIKE[None]), tuple(self.expr(kind, row, around, depth - 1) for _ in range(2)))
        if kind == "bool" and told < 0.75:
            other = self.pick(VALUES)
            if rng.random() < 0.2:
                return ("op", "isnull", (self.expr(other, row, around, depth - 1),))
            return ("op", self.pick(ALIKE["bool"]), tuple(self.expr(other, row, around, depth - 1) for _ in range(2)))
        name, other = self.pick(BINARY[kind])
        return ("op", name, tuple(self.expr(other, row, around, depth - 1) for _ in range(2)))

    def right_plan(self, depth):
        """A plan within the bounds."""
        while True:
            plan, told = self.plan(depth)
            try:
                assert kinds(plan, self.schemas) == told, plan
                return plan
            except TooMuch:
                pass

    def tables(self, most):
        """Rows for each table, as many as told at most, that fit its schema and keep its keys."""
        found = {}
        for schema in self.schemas:
            rows = []
            for _ in range(self.rng.randrange(most + 1)):
                row = tuple(self.value(kind) if nullable else self.pick(VALUES[kind]) for _, kind, nullable in schema[1])
                if not any(all(row[place] == other[place] for place in key) for key in schema[2] for other in rows):
                    rows.append(row)
            found[schema[0]] = (schema, rows)
        return found
