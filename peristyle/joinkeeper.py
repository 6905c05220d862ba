"""What a view keeps for joins ([11.2])."""

from peristyle.keepers import Keeper, add_to

LEFT = 0
RIGHT = 1


class JoinKeeper(Keeper):
    """An inner, semi or anti join: the rows of both sides by their keys.

    Cond is a function for the row of a pair, or None for True; works are two lists of functions for the keys.
    """

    def __init__(self, inputs, looks, kind, cond, works):
        super().__init__(inputs, looks)
        self.kind = kind
        self.cond = cond
        self.works = works
        self.by_key = ({}, {})
        # For semi and anti joins: how many partners each left row has.
        self.partners = {}

    def passed(self, changes, is_first):
        """The change of the rows."""
        if self.kind == "inner":
            return self.inner_change(changes)
        change = {}
        self.right_changed(changes[RIGHT], change)
        self.left_changed(changes[LEFT], change)
        return change

    def key_of(self, row, side):
        """The key of a row of a side; None if there is a null in it, as then it has no partner."""
        key = tuple([work(row, ()) for work in self.works[side]])
        return None if None in key else key

    def rows_with(self, key, side):
        """The rows of a side with a key, with their numbers, in a list."""
        found = list(self.by_key[side].get(key, {}).items())
        self.looks.note(len(found))
        return found

    def keep(self, change, side):
        """Keep a change of a side."""
        for row, many in change.items():
            key = self.key_of(row, side)
            if key is not None:
                add_to(self.by_key[side].setdefault(key, {}), row, many)
                if not self.by_key[side][key]:
                    del self.by_key[side][key]

    def are_partners(self, row, other):
        """Tell whether a left and a right row with the same key are partners."""
        cond = self.cond
        return cond is None or cond(row + other, ()) is True

    def inner_change(self, changes):
        """The change of an inner join: each side's by what the other one is then."""
        change = {}
        for row, many in changes[LEFT].items():
            for other, others in self.rows_with(self.key_of(row, LEFT), RIGHT):
                if self.are_partners(row, other):
                    add_to(change, row + other, many * others)
        self.keep(changes[LEFT], LEFT)
        for other, others in changes[RIGHT].items():
            for row, many in self.rows_with(self.key_of(other, RIGHT), LEFT):
                if self.are_partners(row, other):
                    add_to(change, row + other, many * others)
        self.keep(changes[RIGHT], RIGHT)
        return change

    def right_changed(self, right, change):
        """Put a change of the right side through."""
        before = {}
        for other, others in right.items():
            for row, many in self.rows_with(self.key_of(other, RIGHT), LEFT):
                if self.are_partners(row, other):
                    before.setdefault(row, (many, self.is_wanted(row)))
                    self.partners[row] += others
        for row, (many, was_wanted) in before.items():
            if self.is_wanted(row) != was_wanted:
                add_to(change, row, -many if was_wanted else many)
        self.keep(right, RIGHT)

    def left_changed(self, left, change):
        """Put a change of the left side through."""
        for row, many in left.items():
            key = self.key_of(row, LEFT)
            if row not in self.partners:
                kept = self.rows_with(key, RIGHT)
                self.partners[row] = sum([others for other, others in kept if self.are_partners(row, other)])
            if self.is_wanted(row):
                add_to(change, row, many)
            # Only what is kept needs a number.
            if key is None or self.by_key[LEFT].get(key, {}).get(row, 0) + many == 0:
                del self.partners[row]
        self.keep(left, LEFT)

    def is_wanted(self, row):
        """Tell whether a left row is one of those of the join."""
        return (self.partners[row] > 0) == (self.kind == "semi")
