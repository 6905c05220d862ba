"""What names mean while a query is bound ([5.2])."""

from peristyle.errors import BadName
from peristyle.shape import lifted


class Source:
    """A source of a FROM: its name, and the names and kinds of its columns."""

    def __init__(self, name, names, kinds):
        self.name = name
        self.names = names
        self.kinds = kinds


class Scope:
    """The columns of one row: those of some sources, one behind the other.

    A closed scope lets no name through to the queries around it. Once a select is grouped, each name that is
    no key is noted as left over, until an expression around it turns out to be a key.
    """

    def __init__(self, sources, closed=False):
        self.sources = sources
        self.closed = closed
        self.names = [name for source in sources for name in source.names]
        self.kinds = [kind for source in sources for kind in source.kinds]
        self.owners = [source.name for source in sources for _ in source.names]
        self.group_keys = None
        self.left_over = []

    def has_source(self, name):
        """Tell whether a source is called so."""
        return name in [source.name for source in self.sources]

    def columns_of(self, owner):
        """The indexes of the columns of a source."""
        return [index for index, name in enumerate(self.owners) if name == owner]

    def called(self, owner, name):
        """The indexes of the columns that are called so, of one source or, if owner is None, of all."""
        found = [index for index, told in enumerate(self.names) if told == name]
        return [index for index in found if owner is None or self.owners[index] == owner]

    def note(self, index, place, around):
        """Note that a name at the place means a column; around are the scopes of the queries around."""
        if self.group_keys is not None and ("col", index) not in self.group_keys:
            self.left_over.append((place, [len(scope.left_over) for scope in around]))

    def refuse_left_over(self, around):
        """Refuse the first name that is left over, if there is one."""
        if not self.left_over:
            return
        place, counts = self.left_over[0]
        # What was noted later further out does not go before it.
        for scope, many in zip(around, counts):
            del scope.left_over[many:]
        raise BadName(place)

    def is_key(self, expr):
        """Tell whether an expression is a key of the grouped select."""
        return self.group_keys is not None and expr in self.group_keys


class Cte:
    """A bound query of WITH, and how many queries were around it."""

    def __init__(self, bound, level):
        self.bound = bound
        self.level = level
        self.moved = {}

    def plan_at(self, level):
        """The plan where so many queries are around it."""
        by = level - self.level
        if by not in self.moved:
            self.moved[by] = lifted(self.bound.plan, by, False)
        return self.moved[by]


class Setting:
    """What a query is bound in: the tables, the queries of WITH and the scopes around, the next one first."""

    def __init__(self, tables, ctes, scopes, bind_query):
        self.tables = tables
        self.ctes = ctes
        self.scopes = scopes
        # Expressions need queries and queries need expressions, which stand in two files.
        self.bind_query = bind_query

    def inside(self, scope):
        """The setting of a query in an expression."""
        return Setting(self.tables, self.ctes, [scope] + self.scopes, self.bind_query)

    def with_cte(self, name, bound):
        """The setting behind one more query of WITH."""
        ctes = dict(self.ctes)
        ctes[name] = Cte(bound, len(self.scopes))
        return Setting(self.tables, ctes, self.scopes, self.bind_query)


class Bound:
    """A bound query: its plan, and the names and kinds of its columns."""

    def __init__(self, plan, names, kinds):
        self.plan = plan
        self.names = names
        self.kinds = kinds


class Spot:
    """Where an expression stands: its row, what is around, and the calls that may stand there.

    Calls is a dict from the places of calls to pairs of what stands for the call, and its kind.
    """

    def __init__(self, scope, setting, calls):
        self.scope = scope
        self.setting = setting
        self.calls = calls


def looked_up(tree, spot):
    """The column or outer that a name means, and its kind."""
    _, owner, name, place = tree
    scopes = [spot.scope] + spot.setting.scopes
    for level, scope in enumerate(scopes):
        found = scope.called(owner, name)
        if len(found) > 1 or (not found and owner is not None and scope.has_source(owner)):
            raise BadName(place)
        if found:
            scope.note(found[0], place, scopes[level + 1:])
            leaf = ("outer", level, found[0]) if level else ("col", found[0])
            return leaf, scope.kinds[found[0]]
        if scope.closed:
            break
    raise BadName(place)
