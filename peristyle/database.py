"""Databases: tables, views and queries ([12.1] to [12.4])."""

from peristyle.binder import bind, bind_beside
from peristyle.errors import BadKey, BadKind, BadName, NoSuch, TooMuch
from peristyle.estimate import cost
from peristyle.grammar import parse
from peristyle.names import is_name
from peristyle.optimise import candidates
from peristyle.plan import kinds
from peristyle.run import run
from peristyle.schema import check_schema
from peristyle.shape import scanned
from peristyle.store import Store
from peristyle.value import is_whole
from peristyle.view import View, can_keep

MOST_VIEWS = 10


class Shown:
    """A view of a database: what its name stands for in queries, the tables that it reads, and its kept rows."""

    def __init__(self, bound, sources, keeper):
        self.bound_query = bound
        self.sources = sources
        self.keeper = keeper


class Database:
    """A store and views; queries are asked of them."""

    def __init__(self):
        self.store = Store()
        self.shown = {}
        self.statistics = {}

    def create(self, schema):
        """Create a table without rows."""
        check_schema(schema)
        if schema[0] in self.shown:
            raise BadName(-1)
        self.store.create(schema)
        self.statistics = {}

    def drop(self, name):
        """Drop a table that no view reads."""
        if any([name in shown.sources for shown in self.shown.values()]):
            raise BadKey()
        self.store.drop(name)
        self.statistics = {}

    def commit(self, changes):
        """Make a version of changes (table, gone, new), or refuse them all."""
        version = self.store.commit(changes)
        self.statistics = {}
        told = _by_tables(changes)
        for shown in self.shown.values():
            shown.keeper.change({name: told[name] for name in shown.sources if name in told})
        return version

    def schemas(self):
        """The schemas of the tables, in the order of creation."""
        return self.store.schemas()

    def version(self):
        """The last version."""
        return self.store.version()

    def pack(self, name, packing):
        """Pack all segments of a table by a packing, where it can be used."""
        self.store.pack(name, packing)

    def settle(self, name, size):
        """Lay the last version of a table into new segments of at most size rows."""
        self.store.settle(name, size)

    def view(self, name, text):
        """Make a view of a query over tables."""
        if not is_name(name) or name in self.shown or self._has_table(name):
            raise BadName(-1)
        if len(self.shown) >= MOST_VIEWS:
            raise TooMuch()
        schemas = self.store.schemas()
        plan, names = bind(parse(text), schemas)
        if not can_keep(plan, schemas):
            raise BadKind(-1)
        sources = scanned(plan)
        rows = {source: self.store.rows(source, self.store.version()) for source in sources}
        self.shown[name] = Shown((plan, names, kinds(plan, schemas)), sources, View(plan, schemas, rows))

    def drop_view(self, name):
        """Drop a view."""
        self._shown(name)
        del self.shown[name]

    def views(self):
        """The names of the views, in the order of creation."""
        return tuple(self.shown)

    def kept(self, name):
        """The kept rows of a view, by the order of rows."""
        return self._shown(name).keeper.rows()

    def query(self, text, *, version=None, choice=0, budget=1000, batch=64, workers=1, turns=()):
        """The names of the columns of a query, and its answer at a version."""
        plan, names = self._bound(text)
        tables = self._tables(plan, self.store.version() if version is None else version)
        running = self._chosen(plan, choice)[1]
        return names, run(running, tables, budget=budget, batch=batch, workers=workers, turns=turns)[0]

    def explain(self, text, *, choice=0, ran=False):
        """The steps for a query, its running plan, its cost and, if it is run, its counts."""
        plan = self._bound(text)[0]
        steps, running = self._chosen(plan, choice)
        counts = run(running, self._tables(plan, self.store.version()))[1] if ran else None
        return steps, running, cost(running, self._statistics(plan)), counts

    def _has_table(self, name):
        return name in [schema[0] for schema in self.store.schemas()]

    def _shown(self, name):
        if name not in self.shown:
            raise NoSuch()
        return self.shown[name]

    def _bound(self, text):
        """The plan of a query, and the names of its columns."""
        views = {name: shown.bound_query for name, shown in self.shown.items()}
        return bind_beside(parse(text), self.store.schemas(), views)

    def _tables(self, plan, version):
        """The tables that a plan scans at a version, with their segments."""
        if not is_whole(version) or not 0 <= version <= self.store.version():
            raise NoSuch()
        return {name: (self.store.schema(name), self.store.segments(name, version)) for name in scanned(plan)}

    def _statistics(self, plan):
        """The statistics of the tables that a plan scans."""
        found = {}
        for name in scanned(plan):
            if name not in self.statistics:
                self.statistics[name] = self.store.statistic(name)
            found[name] = self.statistics[name]
        return found

    def _chosen(self, plan, choice):
        """The candidate of a number."""
        found = candidates(plan, self.store.schemas(), self._statistics(plan))
        return found[choice % len(found)]


def _by_tables(changes):
    """By tables, the rows that go and those that come by several changes; some may do both."""
    told = {}
    for name, gone, new in changes:
        if name not in told:
            told[name] = ([], [])
        told[name][0].extend([tuple(row) for row in gone])
        told[name][1].extend([tuple(row) for row in new])
    return told
