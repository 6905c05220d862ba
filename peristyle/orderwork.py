"""Operators that order rows: top and window ([10.1])."""

from peristyle.flow import Operator
from peristyle.frames import Part
from peristyle.spool import Pile, SortedPile
from peristyle.value import least_fault, row_key

# Behind all signs that are turned.
END_OF_TEXT = (1,)


def item_key(value, desc, nullsfirst):
    """What a value that is no fault is sorted by for an item of an order."""
    if value is None:
        return (-1 if nullsfirst else 1, 0)
    if not desc:
        return (0, value)
    if isinstance(value, str):
        return (0, tuple([-ord(sign) for sign in value]) + END_OF_TEXT)
    return (0, -value)


class Sorting:
    """An order at work: functions, each with two truth values as in the items."""

    def __init__(self, items):
        self.order_items = items

    def worths_of(self, row, outers):
        """The values of the expressions for a row."""
        return tuple([work(row, outers) for work, _, _ in self.order_items])

    def key(self, worths):
        """What a row with these values is sorted by."""
        return [item_key(worth, desc, first) for worth, (_, desc, first) in zip(worths, self.order_items)]


class TopWork(Operator):
    """Rows in an order, without some of the first and of the last ones."""

    def __init__(self, course, inputs, sorting, limit, offset):
        super().__init__(course, inputs)
        self.sorting = sorting
        self.limit = limit
        self.offset = offset

    def begin(self):
        """Make ready for new rows."""
        self.pile = SortedPile(self.room)

    def receive(self, rows, number):
        """Keep rows."""
        for row in rows:
            worths = self.sorting.worths_of(row, self.outers)
            fault = least_fault(row + worths)
            if fault is None:
                self.pile.add(self.sorting.key(worths) + row_key(row), row)
            else:
                self.note(fault)

    def finish(self):
        """Hand on those that are wanted."""
        pairs = self.pile.finish()
        end = len(pairs) if self.limit is None else min(len(pairs), self.offset + self.limit)
        for at in range(self.offset, end):
            self.hand(pairs[at][1])


class Fun:
    """A function of a window at work; arg is a function or None, partition a list of functions."""

    def __init__(self, name, arg, partition, sorting, frame):
        self.name = name
        self.arg = arg
        self.parting = partition
        self.sorting = sorting
        self.frame = frame

    def parted(self, row, outers):
        """The values by which a row belongs to a part."""
        return tuple([work(row, outers) for work in self.parting])

    def key(self, line, outers):
        """What a line is sorted by: first its part, then its peers."""
        number, row, _ = line
        peers = self.sorting.key(self.sorting.worths_of(row, outers))
        return (row_key(self.parted(row, outers)), peers, row_key(row), number)

    def worth(self, row, outers):
        """The argument for a row."""
        work = self.arg
        return None if work is None else work(row, outers)


class WindowWork(Operator):
    """The rows of a window: each goes, as a line (number, row, what is told so far), through one function by another.

    For each of them all lines are sorted, and the lines of a part are held while the function is worked out.
    """

    def __init__(self, course, inputs, funs):
        super().__init__(course, inputs)
        self.funs = funs

    def begin(self):
        """Make ready for new rows."""
        self.pile = Pile(self.room)
        self.many = 0

    def receive(self, rows, number):
        """Keep rows."""
        for row in rows:
            worths = row
            for fun in self.funs:
                worths = worths + fun.parted(row, self.outers) + fun.sorting.worths_of(row, self.outers)
            fault = least_fault(worths)
            if fault is None:
                self.pile.add((self.many, row, ()))
                self.many += 1
            else:
                self.note(fault)

    def finish(self):
        """Work out the functions, one after the other."""
        is_held = not self.pile.is_spilled()
        lines = self.pile.lines
        if not is_held:
            self.pile.spill()
            lines = self.pile.spooled
        for fun in self.funs:
            lines = self.with_fun(fun, self.in_order(fun, lines, is_held), is_held)
        for _, row, told in lines:
            self.hand(row + told)

    def in_order(self, fun, lines, is_held):
        """The lines with their keys, sorted for a function."""
        if is_held:
            return sorted([(fun.key(line, self.outers), line) for line in lines], key=lambda pair: pair[0])
        pile = SortedPile(self.room)
        for line in lines:
            pile.add(fun.key(line, self.outers), line)
        return pile.finish()

    def with_fun(self, fun, pairs, is_held):
        """The lines with what the function tells, too."""
        found = []
        start = 0
        while start < len(pairs):
            end = start
            while end < len(pairs) and pairs[end][0][0] == pairs[start][0][0]:
                end += 1
            for line in self.part_told(fun, pairs[start:end], is_held):
                if is_held:
                    found.append(line)
                else:
                    self.room.write(found, line)
            start = end
        return found

    def part_told(self, fun, pairs, is_held):
        """The lines of one part with what the function tells."""
        many = 0 if is_held else len(pairs)
        self.room.grow(many)
        part = Part([key[1] for key, _ in pairs], [fun.worth(line[1], self.outers) for _, line in pairs])
        found = []
        for place, (_, (number, row, told)) in enumerate(pairs):
            found.append((number, row, told + (part.answer(fun.name, place, fun.frame),)))
        self.room.shrink(many)
        return found
