"""Plans in expressions at work ([5.1]): each is run on its own, but not twice for the same outers."""

from peristyle.value import MANY, fault, is_fault, least_fault


class Look:
    """What is told of the rows of a plan: how many there are, and the first value."""

    def __init__(self):
        self.many = 0
        self.first = None

    def receive(self, rows, number):
        """Look at rows."""
        if self.many == 0:
            self.first = rows[0][0] if rows[0] else None
        self.many += len(rows)


class Different:
    """The different values of a column, as long as they are not too many."""

    def __init__(self, most):
        self.most = most
        self.worths = {}
        self.is_complete = True
        self.fault = None

    def receive(self, rows, number):
        """Look at rows."""
        for row in rows:
            self.look_at(row[0])

    def look_at(self, value):
        """Look at one value."""
        if value in self.worths:
            return
        if len(self.worths) < self.most:
            self.worths[value] = True
            self.fault = least_fault([self.fault, value])
        else:
            self.is_complete = False

    def answer(self, value):
        """The answer of "in" for a value."""
        if value is None or None in self.worths:
            return self.answer_by_null(value)
        if is_fault(value):
            return least_fault([value, self.fault]) if self.worths else False
        if value in self.worths:
            return True
        return False if self.fault is None else self.fault

    def answer_by_null(self, value):
        """The answer, if the value is null or null is among the others."""
        if not self.worths:
            return False
        return True if value is not None and not is_fault(value) and value in self.worths else None


class Search:
    """The answer of "in" for one value, row by row."""

    def __init__(self, value):
        self.wanted = value
        self.has_null = False
        self.has_value = False
        self.fault = None

    def receive(self, rows, number):
        """Look at rows."""
        for row in rows:
            self.look_at(row[0])

    def look_at(self, other):
        """Look at one value of the column."""
        if self.wanted is None or other is None:
            self.has_null = True
        elif is_fault(self.wanted) or is_fault(other):
            self.fault = least_fault([self.fault, self.wanted, other])
        elif self.wanted == other:
            self.has_value = True

    def answer(self):
        """The answer so far."""
        if self.has_value:
            return True
        if self.has_null:
            return None
        return False if self.fault is None else self.fault


class Query:
    """A plan in an expression. Free are pairs (level, index): the columns of the rows around that it uses."""

    def __init__(self, course, operator, free):
        self.course = course
        self.operator = operator
        self.free = free
        self.answers = {}
        self.last = None

    def key_of(self, around):
        """What the rows of the plan depend on."""
        return tuple([around[level][index] for level, index in self.free])

    def keep(self, key, told):
        """Remember an answer."""
        if len(self.answers) >= self.course.budget:
            self.answers = {}
        self.answers[key] = told
        self.course.note_held(len(self.answers))

    def looked(self, row, outers):
        """The fault with which the plan fails, or None, and a look at its rows."""
        around = [row, *outers]
        key = self.key_of(around)
        if key not in self.answers:
            look = Look()
            self.keep(key, (self.operator.go(around, look, 0), look))
        return self.answers[key]

    def scalar(self, row, outers):
        """The plan's only value."""
        fails, look = self.looked(row, outers)
        if fails is not None:
            return fails
        return look.first if look.many <= 1 else fault(MANY)

    def exists(self, row, outers):
        """Whether the plan has a row."""
        fails, look = self.looked(row, outers)
        return look.many > 0 if fails is None else fails

    def within(self, value, row, outers):
        """Whether a value is among the plan's."""
        around = [row, *outers]
        key = self.key_of(around)
        if self.last is None or self.last[0] != key:
            found = Different(self.course.budget)
            fails = self.operator.go(around, found, 0)
            self.course.note_held(len(found.worths))
            self.last = (key, fails, found)
        _, fails, found = self.last
        if fails is not None:
            return fails
        if found.is_complete:
            return found.answer(value)
        return self.searched(value, around, key)

    def searched(self, value, around, key):
        """The same, if the plan has more values than may be held."""
        if (key, value) not in self.answers:
            search = Search(value)
            self.operator.go(around, search, 0)
            self.keep((key, value), search.answer())
        return self.answers[(key, value)]
