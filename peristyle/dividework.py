"""Operators that compare the rows of two inputs: except and meet ([10.1])."""

from peristyle.flow import Operator
from peristyle.spool import SortedPile
from peristyle.value import least_fault, row_key

RIGHT = 1


class DivideWork(Operator):
    """The left rows that have, or have not, a right row of their own.

    A table counts right rows; those for which it has no place go to the spool, with the left rows that may have
    such a one, and are sorted then.
    """

    def __init__(self, course, inputs, wanted):
        super().__init__(course, inputs)
        self.wanted = wanted

    def begin(self):
        """Make ready for new rows."""
        self.left_over = {}
        self.beyond = []
        self.lefts = []

    def receive(self, rows, number):
        """Count right rows; then look for those of left ones."""
        for row in rows:
            fault = least_fault(row)
            if fault is not None:
                self.note(fault)
            elif number == RIGHT:
                self.count_right(row)
            elif row not in self.left_over and self.beyond:
                self.room.write(self.lefts, row)
            else:
                self.meet(row)

    def count_right(self, row):
        """Count a right row."""
        if row in self.left_over:
            self.left_over[row] += 1
        elif self.room.has_place():
            self.left_over[row] = 1
            self.room.grow(1)
        else:
            self.room.write(self.beyond, row)

    def meet(self, row):
        """Look in the table for the right row of a left one."""
        has_one = self.left_over.get(row, 0) > 0
        if has_one:
            self.left_over[row] -= 1
        self.hand_wanted(row, has_one)

    def hand_wanted(self, row, has_one):
        """Hand a left row on, if it is wanted."""
        if has_one == self.wanted:
            self.hand(row)

    def finish(self):
        """Compare what is in the spool."""
        self.room.shrink(len(self.left_over))
        self.left_over = {}
        lefts = self.in_order(self.lefts)
        rights = self.in_order(self.beyond)
        at = 0
        for key, row in lefts:
            while at < len(rights) and rights[at][0] < key:
                at += 1
            has_one = at < len(rights) and rights[at][0] == key
            if has_one:
                at += 1
            self.hand_wanted(row, has_one)

    def in_order(self, rows):
        """Rows of the spool in order."""
        pile = SortedPile(self.room)
        for row in rows:
            pile.add(row_key(row), row)
        return pile.finish()
