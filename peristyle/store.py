"""The store of tables and versions (chapter 3)."""

from peristyle.column import MOST_VALUES, is_packing, read_column
from peristyle.draft import Draft
from peristyle.errors import BadForm, BadKey, BadName, NoSuch, TooMuch
from peristyle.schema import check_schema, fits
from peristyle.segment import cut, segment_of
from peristyle.table import Table
from peristyle.value import is_whole

MOST_TABLES = 20


def segmented(schema, rows, packing, size):
    """Segments of at most size rows, each column by the packing if it can be used."""
    return [segment_of(schema, part, packing) for part in cut(rows, size)]


def segment_rows(schema, segment):
    """The rows of a segment that are there, in order."""
    columns, _, gone = segment
    missing = set(gone)
    values = [read_column(column)[2] for column in columns]
    rows = []
    for index, row in enumerate(zip(*values)):
        if index not in missing:
            rows.append(row)
    return rows


class Store:
    """Tables, of which each commit makes a new version; no version ever changes."""

    def __init__(self):
        self.tables = {}
        self.latest = 0

    def create(self, schema):
        """Create a table without rows."""
        check_schema(schema)
        if schema[0] in self.tables:
            raise BadName(-1)
        if len(self.tables) >= MOST_TABLES:
            raise TooMuch()
        self.tables[schema[0]] = Table(schema, self.latest)

    def drop(self, name):
        """Drop a table and its versions."""
        self._table(name)
        del self.tables[name]

    def schemas(self):
        """The schemas of the tables, in the order of creation."""
        return tuple([table.form for table in self.tables.values()])

    def schema(self, name):
        """The schema of a table."""
        return self._table(name).form

    def version(self):
        """The last version."""
        return self.latest

    def commit(self, changes):
        """Make a version of changes (table, gone, new), or refuse them all."""
        drafts = self._drafts([self._checked(change) for change in changes])
        if any([draft.has_twins() for draft in drafts]):
            raise BadKey()
        if any([draft.is_too_long() for draft in drafts]):
            raise TooMuch()
        self.latest += 1
        for draft in drafts:
            draft.table.turn_to(draft.counts, self.latest)
        return self.latest

    def _checked(self, change):
        name, gone, new = change
        schema = self._table(name).form
        if not all([fits(schema, row) for row in [*gone, *new]]):
            raise BadForm()
        return (name, [tuple(row) for row in gone], [tuple(row) for row in new])

    def _drafts(self, changes):
        drafts = {}
        for name, gone, new in changes:
            if name not in drafts:
                drafts[name] = Draft(self.tables[name])
            drafts[name].make(gone, new)
        return list(drafts.values())

    def rows(self, name, version):
        """The rows of a table at a version, in any order."""
        table = self._table_at(name, version)
        found = []
        for segment in table.segments_at(version):
            found.extend(segment_rows(table.form, segment))
        return found

    def segments(self, name, version):
        """The segments of a table at a version."""
        return self._table_at(name, version).segments_at(version)

    def statistic(self, name):
        """How many rows the last version of a table has, and how many different values each column, without null."""
        table = self._table(name)
        tally = table.tally()
        different = []
        for index in range(len(table.form[1])):
            different.append(len(set([row[index] for row in tally if row[index] is not None])))
        return (sum(tally.values()), tuple(different))

    def pack(self, name, packing):
        """Pack all segments of a table by a packing, where it can be used."""
        table = self._table(name)
        if not is_packing(packing):
            raise BadForm()
        table.pack_all(packing)

    def settle(self, name, size):
        """Lay the last version of a table into new segments of at most size rows."""
        table = self._table(name)
        if not is_whole(size) or not 1 <= size <= MOST_VALUES:
            raise BadForm()
        table.lay_anew(size, self.latest)

    def _table(self, name):
        if name not in self.tables:
            raise NoSuch()
        return self.tables[name]

    def _table_at(self, name, version):
        table = self._table(name)
        if not is_whole(version) or not table.born <= version <= self.latest:
            raise NoSuch()
        return table
