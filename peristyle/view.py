"""Views: plans of which the rows are kept up to date ([11.1] to [11.4])."""

from peristyle.errors import BadKind
from peristyle.exprwork import worker_of, workers_of
from peristyle.groupkeeper import GroupKeeper
from peristyle.joinkeeper import JoinKeeper
from peristyle.keepable import is_keepable
from peristyle.keepers import (
    CountKeeper, Looks, RowsKeeper, ScanKeeper, SelectKeeper, UnionKeeper, WhereKeeper, add_to, size_of,
)
from peristyle.methods import pairs_of, rest_of
from peristyle.sight import sight_of
from peristyle.value import sorted_rows


def can_keep(plan, schemas):
    """Tell whether a right plan can be kept."""
    return is_keepable(plan, {schema[0]: schema for schema in schemas})


def change_of(plan, schemas, tables, change):
    """The rows of a plan that go and those that come by a change of the tables, as they are before it."""
    return View(plan, schemas, tables).change(change)


class View:
    """A plan, and its rows on the tables as they are."""

    def __init__(self, plan, schemas, tables):
        if not can_keep(plan, schemas):
            raise BadKind(-1)
        self.looks = Looks()
        self.root = _keeper_of(sight_of(plan, {schema[0]: schema for schema in schemas}), self.looks)
        self.counts = {}
        self._put_through({name: ([], tables[name]) for name in tables}, True)
        self.looks.many = 0

    def rows(self):
        """The rows, by the order of rows; faults may stand in them."""
        return _listed(self.counts)

    def change(self, change):
        """Change the tables; tells the rows that go and those that come."""
        told = self._put_through(change, False)
        gone = {row: -many for row, many in told.items() if many < 0}
        new = {row: many for row, many in told.items() if many > 0}
        return _listed(gone), _listed(new)

    def looked(self):
        """How many rows were looked at in all changes."""
        return self.looks.many

    def _put_through(self, change, is_first):
        """Change the rows by a change of the tables."""
        told = self.root.changed({name: _netted(change[name]) for name in change}, is_first)
        self.looks.note(size_of(told))
        for row, many in told.items():
            add_to(self.counts, row, many)
        return told


def _netted(pair):
    """How many more or less there are of each row, by lists of those that go and those that come."""
    gone, new = pair
    change = {}
    for row in gone:
        add_to(change, tuple(row), -1)
    for row in new:
        add_to(change, tuple(row), 1)
    return change


def _listed(counts):
    """A list of rows, in order, by their numbers."""
    return sorted_rows([row for row, many in counts.items() for _ in range(many)])


def _keeper_of(sight, looks):
    inputs = [_keeper_of(below, looks) for below in sight.inputs]
    plan = sight.plan
    word = plan[0]
    if word == "scan":
        return ScanKeeper(looks, plan[1])
    if word == "rows":
        return RowsKeeper(looks, plan[2])
    if word == "where":
        return WhereKeeper(inputs, looks, worker_of(plan[1], None))
    if word == "select":
        return SelectKeeper(inputs, looks, workers_of(plan[1], None))
    if word == "union":
        return UnionKeeper(inputs, looks)
    if word == "join":
        return _join_keeper(sight, inputs, looks)
    if word == "group":
        aggs = [(name, distinct, None if arg is None else worker_of(arg, None)) for name, distinct, arg in plan[2]]
        return GroupKeeper(inputs, looks, workers_of(plan[1], None), aggs)
    return CountKeeper(inputs, looks, word)


def _join_keeper(sight, inputs, looks):
    _, kind, cond, _, _ = sight.plan
    many = sight.inputs[0].width
    pairs = pairs_of(cond, many)
    lefts = [left for left, _ in pairs]
    rights = [right for _, right in pairs]
    rest = rest_of(cond, lefts, rights, many)
    works = [workers_of(lefts, None), workers_of(rights, None)]
    return JoinKeeper(inputs, looks, kind, None if rest is None else worker_of(rest, None), works)
