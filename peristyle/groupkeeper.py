"""What a view keeps for groups ([11.2])."""

from peristyle.aggs import counts_each_once, told_of
from peristyle.keepers import Keeper, add_to


class Worths:
    """The values of an agg's argument in one group; none of them is a fault."""

    def __init__(self, looks, name, distinct):
        self.looks = looks
        self.name = name
        self.each_once = counts_each_once(name, distinct)
        self.needs_counts = self.each_once or name in ("min", "max", "every", "some")
        self.counts = {}
        self.many = 0
        self.total = 0
        self.best = None

    def turn(self, value, many):
        """Let a value be there so many times more, or, below 0, less."""
        if value is None and self.name != "rows":
            return
        if self.needs_counts:
            had = value in self.counts
            add_to(self.counts, value, many)
            has = value in self.counts
            self.find_best(value, has)
            if self.each_once:
                many = int(has) - int(had)
        self.many += many
        if self.name in ("sum", "avg"):
            self.total += many * value

    def find_best(self, value, has):
        """Note the best value, if the name asks for one; has tells whether the value is there."""
        if self.name in ("min", "every"):
            self.best = min(self.counts_looked(value, has), default=None)
        elif self.name in ("max", "some"):
            self.best = max(self.counts_looked(value, has), default=None)

    def counts_looked(self, value, has):
        """The values among which the best one is."""
        if has:
            return [value] if self.best is None else [value, self.best]
        if value != self.best:
            return [self.best]
        self.looks.note(len(self.counts))
        return list(self.counts)

    def told(self):
        """The answer of the agg."""
        return told_of(self.name, self.many, self.total, self.best)


class GroupKeeper(Keeper):
    """Groups: how many rows each has, and the values for its aggs.

    Key_works are functions; aggs are triples as in the plan, with a function instead of the expression.
    """

    def __init__(self, inputs, looks, key_works, aggs):
        super().__init__(inputs, looks)
        self.key_works = key_works
        self.aggs = aggs
        self.sizes = {}
        self.groups = {}

    def passed(self, changes, is_first):
        """The change of the rows of all groups that change."""
        by_key = {}
        if is_first and not self.key_works:
            by_key[()] = {}
        for row, many in changes[0].items():
            key = tuple([work(row, ()) for work in self.key_works])
            rows = by_key.setdefault(key, {})
            rows[row] = many
        change = {}
        for key, rows in by_key.items():
            self.group_changed(key, rows, change)
        return change

    def group_changed(self, key, rows, change):
        """Put the change of one group through."""
        self.looks.note(1)
        if key in self.groups:
            add_to(change, self.row_of(key), -1)
        else:
            self.sizes[key] = 0
            self.groups[key] = [Worths(self.looks, name, distinct) for name, distinct, _ in self.aggs]
        for row, many in rows.items():
            self.sizes[key] += many
            for worths, (_, _, work) in zip(self.groups[key], self.aggs):
                worths.turn(None if work is None else work(row, ()), many)
        if self.sizes[key] == 0 and self.key_works:
            del self.sizes[key]
            del self.groups[key]
        else:
            add_to(change, self.row_of(key), 1)

    def row_of(self, key):
        """The row of a group."""
        return key + tuple([worths.told() for worths in self.groups[key]])
