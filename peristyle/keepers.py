"""What a view keeps for each plan in its plan, and how changes go through it ([11.2] to [11.4]).

A change is a dict from rows to how many more of them there are, or, below 0, less; none of them is 0.
"""


def add_to(change, row, many):
    """Add so many rows to a change."""
    told = change.get(row, 0) + many
    if told != 0:
        change[row] = told
    elif row in change:
        del change[row]


def size_of(change):
    """How many rows go and come."""
    return sum([abs(many) for many in change.values()])


class Keeper:
    """One plan that is kept; looks counts the rows that are looked at."""

    def __init__(self, inputs, looks):
        self.inputs = inputs
        self.looks = looks

    def changed(self, tables, is_first):
        """The change of the rows, by the changes of the tables; the first one begins with no rows at all."""
        changes = [below.changed(tables, is_first) for below in self.inputs]
        for change in changes:
            self.looks.note(size_of(change))
        return self.passed(changes, is_first)

    def passed(self, changes, is_first):
        """The change of the rows, by the changes of the inputs."""
        return {}


class Looks:
    """How many rows were looked at."""

    def __init__(self):
        self.many = 0

    def note(self, many):
        """Look at so many rows more."""
        self.many += many


class ScanKeeper(Keeper):
    """A table; nothing of it is kept."""

    def __init__(self, looks, name):
        super().__init__([], looks)
        self.name = name

    def changed(self, tables, is_first):
        """The change of the table."""
        change = tables.get(self.name, {})
        self.looks.note(size_of(change))
        return change


class RowsKeeper(Keeper):
    """Rows of the plan, which are there from the first change on."""

    def __init__(self, looks, rows):
        super().__init__([], looks)
        self.lines = rows

    def passed(self, changes, is_first):
        """All rows, once."""
        change = {}
        if is_first:
            for row in self.lines:
                add_to(change, row, 1)
        return change


class WhereKeeper(Keeper):
    """The rows for which a condition is True; nothing of them is kept."""

    def __init__(self, inputs, looks, cond):
        super().__init__(inputs, looks)
        self.cond = cond

    def passed(self, changes, is_first):
        """The change of the rows that are wanted."""
        cond = self.cond
        return {row: many for row, many in changes[0].items() if cond(row, ()) is True}


class SelectKeeper(Keeper):
    """The values of some expressions; nothing of them is kept."""

    def __init__(self, inputs, looks, works):
        super().__init__(inputs, looks)
        self.works = works

    def passed(self, changes, is_first):
        """The change of the rows of values."""
        change = {}
        for row, many in changes[0].items():
            add_to(change, tuple([work(row, ()) for work in self.works]), many)
        return change


class UnionKeeper(Keeper):
    """The rows of both inputs; nothing of them is kept."""

    def passed(self, changes, is_first):
        """Both changes together."""
        change = {row: many for row, many in changes[0].items()}
        for row, many in changes[1].items():
            add_to(change, row, many)
        return change


class CountKeeper(Keeper):
    """Rows of which it is told by their numbers in the inputs how often they are there."""

    def __init__(self, inputs, looks, word):
        super().__init__(inputs, looks)
        self.word = word
        self.counts = [{} for _ in inputs]

    def passed(self, changes, is_first):
        """The change of all rows that change in an input."""
        found = {row: True for change in changes for row in change}
        before = {row: self.number_of(row) for row in found}
        for counts, change in zip(self.counts, changes):
            for row, many in change.items():
                add_to(counts, row, many)
        change = {}
        for row in found:
            self.looks.note(1)
            add_to(change, row, self.number_of(row) - before[row])
        return change

    def number_of(self, row):
        """How often a row is there."""
        many = self.counts[0].get(row, 0)
        if self.word == "distinct":
            return min(many, 1)
        other = self.counts[1].get(row, 0)
        return min(many, other) if self.word == "meet" else max(many - other, 0)
