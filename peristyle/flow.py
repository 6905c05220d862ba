"""Operators that hold no rows: they hand on what they are handed ([10.1] to [10.3])."""

from peristyle.bound import may_hold
from peristyle.spool import Room
from peristyle.store import segment_rows
from peristyle.value import is_fault, least_fault


class Operator:
    """One word of a running plan at work: its inputs hand rows to it, and it hands rows to what is above it."""

    def __init__(self, course, inputs):
        self.course = course
        self.inputs = inputs
        self.outers = []
        self.above = None
        self.number = 0
        self.room = Room(course)
        self.ready = []
        self.fault = None

    def go(self, outers, above, number):
        """Work for some rows of the queries around; tells the fault with which the plan fails, or None.

        The rows are handed to what is above, of which this is the input of a number.
        """
        self.outers = outers
        self.above = above
        self.number = number
        self.room = Room(self.course)
        self.ready = []
        self.fault = None
        self.begin()
        told = self.run_inputs()
        if told is None:
            self.finish()
            told = self.fault
        self.hand_on()
        return told

    def begin(self):
        """Make ready for new rows."""

    def run_inputs(self):
        """Run the inputs; tells the least fault with which one of them fails."""
        # The right side comes first, so that the left one may be handed through.
        faults = []
        for number in reversed(range(len(self.inputs))):
            faults.append(self.inputs[number].go(self.outers, self, number))
        return least_fault(faults)

    def receive(self, rows, number):
        """Take rows of an input."""

    def finish(self):
        """Do what is left when all inputs are told and none of them fails."""

    def note(self, value):
        """Note a value with which the plan fails, if it is a fault."""
        if is_fault(value):
            self.fault = least_fault([self.fault, value])

    def hand(self, row):
        """Hand a row on."""
        self.ready.append(row)
        if len(self.ready) >= self.course.batch:
            self.hand_on()

    def hand_on(self):
        """Hand on the rows of the batch that are there so far."""
        rows = self.ready
        self.ready = []
        if rows:
            self.course.handed += len(rows)
            self.above.receive(rows, self.number)


class Share:
    """The segments of a table that one worker reads."""

    def __init__(self, course, form, segments, tests):
        self.course = course
        self.form = form
        self.lots = segments
        self.tests = tests
        self.at = 0
        self.lines = []
        self.start = 0

    def next_rows(self):
        """The next rows, at most a batch; None if there are no more."""
        while self.start >= len(self.lines):
            if self.at >= len(self.lots):
                return None
            self.open_next()
        first = self.start
        self.start += self.course.batch
        return self.lines[first:self.start]

    def open_next(self):
        """Unpack the next segment, or leave it out."""
        segment = self.lots[self.at]
        self.at += 1
        self.start = 0
        self.lines = []
        if all([may_hold(name, segment[1][index], value) for name, index, value in self.tests]):
            self.course.unpacked += 1
            self.lines = segment_rows(self.form, segment)
        else:
            self.course.skipped += 1


class ScanWork(Operator):
    """A table, read by several workers in turns; cond is a function, or None.

    Tests are triples (operator, column, value) that hold for all rows that are wanted.
    """

    def __init__(self, course, table, cond, tests):
        super().__init__(course, [])
        self.name = table
        self.cond = cond
        self.tests = tests

    def run_inputs(self):
        """Read the segments."""
        form, segments = self.course.tables[self.name]
        many = self.course.workers
        shares = [Share(self.course, form, segments[number::many], self.tests) for number in range(many)]
        left = many
        while left > 0:
            number = self.course.next_worker()
            # A worker that is through leaves its turn to the next one.
            while shares[number] is None:
                number = (number + 1) % many
            rows = shares[number].next_rows()
            if rows is None:
                shares[number] = None
                left -= 1
            else:
                self.sift(rows)
        return None

    def sift(self, rows):
        """Hand on the rows that are wanted."""
        cond = self.cond
        for row in rows:
            told = True if cond is None else cond(row, self.outers)
            if told is True:
                self.hand(row)
            else:
                self.note(told)


class RowsWork(Operator):
    """Rows that stand in the plan."""

    def __init__(self, course, rows):
        super().__init__(course, [])
        self.lines = rows

    def finish(self):
        """Hand all on."""
        for row in self.lines:
            self.hand(row)


class WhereWork(Operator):
    """Rows for which a condition is True."""

    def __init__(self, course, inputs, cond):
        super().__init__(course, inputs)
        self.cond = cond

    def receive(self, rows, number):
        """Hand on the rows that are wanted."""
        cond = self.cond
        for row in rows:
            told = cond(row, self.outers)
            if told is True:
                self.hand(row)
            else:
                self.note(told)


class SelectWork(Operator):
    """The values of some expressions."""

    def __init__(self, course, inputs, works):
        super().__init__(course, inputs)
        self.works = works

    def receive(self, rows, number):
        """Hand on a row for each row."""
        for row in rows:
            self.hand(tuple([work(row, self.outers) for work in self.works]))


class UnionWork(Operator):
    """The rows of both inputs."""

    def receive(self, rows, number):
        """Hand all on."""
        for row in rows:
            self.hand(row)
