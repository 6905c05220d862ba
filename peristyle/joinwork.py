"""Operators that join: by pairs, by a table of keys, and by sorting ([10.1])."""

from peristyle.flow import Operator
from peristyle.spool import Pile, SortedPile

LEFT = 0
RIGHT = 1


class JoinWork(Operator):
    """What all joins share; cond is a function for the row of a pair, or None for True."""

    def __init__(self, course, inputs, kind, cond, widths):
        super().__init__(course, inputs)
        self.kind = kind
        self.cond = cond
        self.left_nulls = (None,) * widths[LEFT]
        self.right_nulls = (None,) * widths[RIGHT]

    def is_partner(self, row, other):
        """Tell whether a left and a right row are partners."""
        cond = self.cond
        if cond is None:
            return True
        told = cond(row + other, self.outers)
        if told is True:
            return True
        self.note(told)
        return False

    def hand_pair(self, row, other):
        """Hand on what two partners give."""
        if self.kind not in ("semi", "anti"):
            self.hand(row + other)

    def hand_left(self, row, has_partner):
        """Hand on what a left row gives by itself."""
        if self.kind == "semi" and has_partner or self.kind == "anti" and not has_partner:
            self.hand(row)
        elif self.kind in ("left", "full") and not has_partner:
            self.hand(row + self.right_nulls)

    def hand_right(self, row, has_partner):
        """Hand on what a right row gives by itself."""
        if self.kind in ("right", "full") and not has_partner:
            self.hand(self.left_nulls + row)


class LoopWork(JoinWork):
    """A join by pairs: the right rows are kept, and each left row meets all of them."""

    def begin(self):
        """Make ready for new rows."""
        self.rights = Pile(self.room)
        self.has_left = []

    def receive(self, rows, number):
        """Keep right rows, and join left ones."""
        if number == RIGHT:
            for row in rows:
                self.rights.add(row)
                self.has_left.append(False)
        else:
            for row in rows:
                self.meet_all(row)

    def meet_all(self, row):
        """Join a left row."""
        has_partner = False
        place = 0
        for lines in (self.rights.spooled, self.rights.lines):
            for other in lines:
                if self.is_partner(row, other):
                    has_partner = True
                    self.has_left[place] = True
                    self.hand_pair(row, other)
                place += 1
        self.hand_left(row, has_partner)

    def finish(self):
        """Hand on the right rows without partners."""
        place = 0
        for lines in (self.rights.spooled, self.rights.lines):
            for other in lines:
                self.hand_right(other, self.has_left[place])
                place += 1


class KeyedWork(JoinWork):
    """What the joins by keys share; works are two lists of functions for the keys of the sides."""

    def __init__(self, course, inputs, kind, cond, widths, works):
        super().__init__(course, inputs, kind, cond, widths)
        self.works = works

    def key_of(self, row, number):
        """The key of a row of a side; None if there is a null in it, as then it has no partner."""
        told = tuple([work(row, self.outers) for work in self.works[number]])
        return None if None in told else told

    def hand_alone(self, row, number):
        """Hand on what a row without a key gives."""
        if number == LEFT:
            self.hand_left(row, False)
        else:
            self.hand_right(row, False)


class HashWork(KeyedWork):
    """A join by a table of the right rows; if they are too many, both sides go to the spool.

    Then the table is made for one part of the right rows after the other, and all left rows meet each.
    """

    def begin(self):
        """Make ready for new rows."""
        self.rights = Pile(self.room)
        self.has_left = []
        self.lefts = []
        self.has_right = []
        self.by_key = None

    def receive(self, rows, number):
        """Keep right rows, and join left ones or keep them, too."""
        for row in rows:
            key = self.key_of(row, number)
            if key is None:
                self.hand_alone(row, number)
            elif number == RIGHT:
                self.rights.add((len(self.has_left), key, row))
                self.has_left.append(False)
            elif self.rights.is_spilled():
                self.room.write(self.lefts, (key, row))
                self.has_right.append(False)
            else:
                self.hand_left(row, self.probe(key, row))

    def probe(self, key, row):
        """Join a left row with the right rows that are in the table; tells whether there is a partner."""
        if self.by_key is None:
            self.by_key = _table_of(self.rights.lines)
        has_partner = False
        for place, other in self.by_key.get(key, ()):
            if self.is_partner(row, other):
                has_partner = True
                self.has_left[place] = True
                self.hand_pair(row, other)
        return has_partner

    def finish(self):
        """Join what is in the spool; then hand on the right rows without partners."""
        if self.rights.is_spilled():
            self.rights.spill()
            self.join_parts()
        for lines in (self.rights.spooled, self.rights.lines):
            for place, _, row in lines:
                self.hand_right(row, self.has_left[place])

    def join_parts(self):
        """Join the left rows with one part of the right ones after the other."""
        size = self.course.budget
        for start in range(0, len(self.rights.spooled), size):
            part = self.rights.spooled[start:start + size]
            self.room.grow(len(part))
            self.by_key = _table_of(part)
            for place, (key, row) in enumerate(self.lefts):
                if self.probe(key, row):
                    self.has_right[place] = True
            self.room.shrink(len(part))
        for place, (_, row) in enumerate(self.lefts):
            self.hand_left(row, self.has_right[place])


def _table_of(lines):
    """Pairs (number, row) by the keys of the rows."""
    by_key = {}
    for place, key, row in lines:
        by_key.setdefault(key, []).append((place, row))
    return by_key


class MergeWork(KeyedWork):
    """A join by sorting both sides by their keys."""

    def begin(self):
        """Make ready for new rows."""
        self.sides = (SortedPile(self.room), SortedPile(self.room))

    def receive(self, rows, number):
        """Keep rows of both sides."""
        for row in rows:
            key = self.key_of(row, number)
            if key is None:
                self.hand_alone(row, number)
            else:
                self.sides[number].add(key, row)

    def finish(self):
        """Join the rows with the same key, one key after the other."""
        lefts = self.sides[LEFT].finish()
        rights = self.sides[RIGHT].finish()
        at = 0
        behind = 0
        while at < len(lefts) or behind < len(rights):
            if behind == len(rights) or (at < len(lefts) and lefts[at][0] < rights[behind][0]):
                self.hand_left(lefts[at][1], False)
                at += 1
            elif at == len(lefts) or rights[behind][0] < lefts[at][0]:
                self.hand_right(rights[behind][1], False)
                behind += 1
            else:
                ends = (_end_of(lefts, at), _end_of(rights, behind))
                self.join_equal(lefts, rights, (at, behind), ends)
                at, behind = ends

    def join_equal(self, lefts, rights, starts, ends):
        """Join the rows with one key, which stand between these places."""
        has_left = [False] * (ends[RIGHT] - starts[RIGHT])
        for at in range(starts[LEFT], ends[LEFT]):
            row = lefts[at][1]
            has_partner = False
            for behind in range(starts[RIGHT], ends[RIGHT]):
                other = rights[behind][1]
                if self.is_partner(row, other):
                    has_partner = True
                    has_left[behind - starts[RIGHT]] = True
                    self.hand_pair(row, other)
            self.hand_left(row, has_partner)
        for place, has_partner in enumerate(has_left):
            self.hand_right(rights[starts[RIGHT] + place][1], has_partner)


def _end_of(pairs, start):
    """Where the pairs with the key at a place end."""
    end = start
    while end < len(pairs) and pairs[end][0] == pairs[start][0]:
        end += 1
    return end
