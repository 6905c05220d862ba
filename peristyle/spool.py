"""What a run holds, writes to the spool and counts ([10.2], [10.3])."""

from heapq import heappop, heappush


class Course:
    """The tables and settings of a run, and what it has counted."""

    def __init__(self, tables, budget, batch, workers, turns):
        self.tables = tables
        self.budget = budget
        self.batch = batch
        self.workers = workers
        self.turns = list(turns)
        self.turned = 0
        self.unpacked = 0
        self.skipped = 0
        self.handed = 0
        self.held = 0
        self.spooled = 0

    def next_worker(self):
        """The number of the worker that goes on."""
        turn = self.turns[self.turned % len(self.turns)] if self.turns else 0
        self.turned += 1
        return turn % self.workers

    def note_held(self, many):
        """Note that an operator holds so many rows."""
        self.held = max(self.held, many)

    def told(self):
        """What is told of a run."""
        return (self.unpacked, self.skipped, self.handed, self.held, self.spooled)


class Room:
    """The rows that one operator holds, those in its piles among them."""

    def __init__(self, course):
        self.course = course
        self.held = 0
        self.piles = []

    def has_place(self):
        """Tell whether one more row may be held."""
        return self.held < self.course.budget

    def grow(self, many):
        """Hold so many rows more."""
        self.held += many
        self.course.note_held(self.held)

    def shrink(self, many):
        """Hold so many rows less."""
        self.held -= many

    def make_place(self):
        """Write the largest pile to the spool, if no more rows may be held."""
        if not self.has_place():
            largest = max(self.piles, key=lambda pile: len(pile.lines))
            largest.spill()

    def spill_all(self):
        """Write all piles to the spool."""
        for pile in self.piles:
            pile.spill()

    def write(self, spooled, row):
        """Write a row to a list of rows in the spool."""
        spooled.append(row)
        self.course.spooled += 1


class Pile:
    """Rows in any order: some of them held, those before in the spool."""

    def __init__(self, room):
        self.room = room
        self.lines = []
        self.spooled = []
        room.piles.append(self)

    def add(self, row):
        """Put a row on the pile."""
        self.room.make_place()
        self.lines.append(row)
        self.room.grow(1)

    def spill(self):
        """Write the rows that are held to the spool."""
        for row in self.lines:
            self.room.write(self.spooled, row)
        self.room.shrink(len(self.lines))
        self.lines = []

    def is_spilled(self):
        """Tell whether some rows are in the spool."""
        return len(self.spooled) > 0


class SortedPile:
    """Rows with keys, in pairs (key, row), that are told in the order of their keys.

    Each run is such a list in the spool, in order; where keys are equal, what was added first comes first.
    """

    def __init__(self, room):
        self.room = room
        self.lines = []
        self.runs = []
        room.piles.append(self)

    def add(self, key, row):
        """Put a row on the pile."""
        self.room.make_place()
        self.lines.append((key, row))
        self.room.grow(1)

    def spill(self):
        """Write the rows that are held to the spool as one more run."""
        if self.lines:
            self.runs.append(self.new_run(_in_order(self.lines)))
            self.room.shrink(len(self.lines))
            self.lines = []

    def new_run(self, pairs):
        """A list in the spool of these pairs."""
        run = []
        for pair in pairs:
            self.room.write(run, pair)
        return run

    def is_spilled(self):
        """Tell whether some rows are in the spool."""
        return len(self.runs) > 0

    def finish(self):
        """All pairs in order: those that are held, or else one run in the spool."""
        if not self.runs:
            self.lines = _in_order(self.lines)
            return self.lines
        self.room.spill_all()
        # While runs are merged, one row of each is held.
        most = self.room.course.budget - self.room.held
        while len(self.runs) > 1:
            some = self.runs[:most]
            self.room.grow(len(some))
            self.runs = self.runs[most:] + [self.new_run(_merged(some))]
            self.room.shrink(len(some))
        return self.runs[0]

    def give_up(self):
        """Hold nothing more."""
        self.room.shrink(len(self.lines))
        self.lines = []
        self.runs = []
        self.room.piles.remove(self)


def _in_order(pairs):
    return sorted(pairs, key=lambda pair: pair[0])


def _merged(runs):
    """The pairs of several runs in order."""
    queue = []
    for number, run in enumerate(runs):
        heappush(queue, (run[0][0], number, 0))
    found = []
    while queue:
        _, number, place = heappop(queue)
        run = runs[number]
        found.append(run[place])
        if place + 1 < len(run):
            heappush(queue, (run[place + 1][0], number, place + 1))
    return found
