"""The rows of a table while a commit is made ([3.3])."""

from peristyle.errors import NoSuch

MOST_ROWS = 2000


class Draft:
    """How often each row stands in a table behind some changes; the table itself is not changed."""

    def __init__(self, table):
        self.table = table
        self.counts = table.tally()

    def make(self, gone, new):
        """Take rows away, then add others; NoSuch if one of the first is not there."""
        for row in gone:
            if self.counts.get(row, 0) == 0:
                raise NoSuch()
            self.counts[row] -= 1
        for row in new:
            self.counts[row] = self.counts.get(row, 0) + 1

    def has_twins(self):
        """Tell whether two rows agree in all columns of a key."""
        rows = [row for row, many in self.counts.items() for _ in range(many)]
        for key in self.table.form[2]:
            if len(set([tuple([row[index] for index in key]) for row in rows])) < len(rows):
                return True
        return False

    def is_too_long(self):
        """Tell whether there are too many rows."""
        return sum(self.counts.values()) > MOST_ROWS
