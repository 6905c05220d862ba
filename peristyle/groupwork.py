"""Operators that bring rows together that are alike: group, sorted and distinct ([10.1])."""

from peristyle.aggs import Tally, agg_of, counts_each_once
from peristyle.flow import Operator
from peristyle.spool import SortedPile
from peristyle.value import is_fault, least_fault, row_key, sort_key


class GroupWork(Operator):
    """A group, or a distinct. Keys are functions, or None for the whole row; aggs are triples as in the plan,
    with a function instead of the expression.

    With a table, the rows of groups for which it has no place any more go to the spool and are sorted then.
    """

    def __init__(self, course, inputs, key_works, aggs, by_table):
        super().__init__(course, inputs)
        self.key_works = key_works
        self.aggs = aggs
        each_once = any([counts_each_once(name, distinct) for name, distinct, _ in aggs])
        # Values that count once each are looked for among the sorted rows.
        self.by_table = by_table and not each_once

    def begin(self):
        """Make ready for new rows."""
        self.groups = {}
        self.beyond = []
        self.sorting = SortedPile(self.room)
        if self.by_table and self.is_one():
            self.open_group(())

    def is_one(self):
        """Tell whether there is just one group, also without rows."""
        return self.key_works is not None and len(self.key_works) == 0

    def receive(self, rows, number):
        """Put rows into their groups, or keep them."""
        for row in rows:
            key = row
            if self.key_works is not None:
                key = tuple([work(row, self.outers) for work in self.key_works])
            fault = least_fault(key)
            if fault is None:
                self.put(key, tuple([self.worth(agg, row) for agg in self.aggs]))
            else:
                self.note(fault)

    def worth(self, agg, row):
        """The argument of an agg for a row."""
        work = agg[2]
        return None if work is None else work(row, self.outers)

    def put(self, key, worths):
        """Put a row, of which nothing else is needed, into its group, or keep it."""
        if not self.by_table:
            self.sorting.add(row_key(key), (key, worths))
        elif key in self.groups or self.room.has_place():
            if key not in self.groups:
                self.open_group(key)
            for tally, worth in zip(self.groups[key], worths):
                tally.add(worth)
        else:
            self.room.write(self.beyond, (key, worths))

    def open_group(self, key):
        """Make a group."""
        self.groups[key] = [Tally(name) for name, _, _ in self.aggs]
        self.room.grow(1)

    def finish(self):
        """Hand on a row for each group."""
        for key, tallies in self.groups.items():
            self.hand(key + tuple([tally.told() for tally in tallies]))
        self.room.shrink(len(self.groups))
        self.groups = {}
        for key, worths in self.beyond:
            self.sorting.add(row_key(key), (key, worths))
        self.hand_sorted()

    def hand_sorted(self):
        """Hand on a row for each group of the sorted rows."""
        is_held = not self.sorting.is_spilled()
        pairs = self.sorting.finish()
        start = 0
        while start < len(pairs):
            end = start
            while end < len(pairs) and pairs[end][0] == pairs[start][0]:
                end += 1
            self.hand(pairs[start][1][0] + self.told(pairs, start, end, is_held))
            start = end
        if not pairs and not self.by_table and self.is_one():
            self.hand(self.told(pairs, 0, 0, True))

    def told(self, pairs, start, end, is_held):
        """The answers of the aggs for sorted rows between two places."""
        if is_held:
            found = []
            for place, (name, distinct, _) in enumerate(self.aggs):
                found.append(agg_of(name, distinct, [pairs[at][1][1][place] for at in range(start, end)]))
            return tuple(found)
        return tuple([self.told_one(pairs, start, end, place) for place in range(len(self.aggs))])

    def told_one(self, pairs, start, end, place):
        """The answer of one agg, if the sorted rows are in the spool."""
        name, distinct, _ = self.aggs[place]
        tally = Tally(name)
        if not counts_each_once(name, distinct):
            for at in range(start, end):
                tally.add(pairs[at][1][1][place])
            return tally.told()
        pile = SortedPile(self.room)
        for at in range(start, end):
            value = pairs[at][1][1][place]
            if is_fault(value):
                tally.add(value)
            elif value is not None:
                pile.add(sort_key(value), value)
        values = pile.finish()
        for at, (_, value) in enumerate(values):
            if at == 0 or value != values[at - 1][1]:
                tally.add(value)
        pile.give_up()
        return tally.told()
