"""What is told of several values at once ([6.4])."""

from peristyle.value import LIMIT, SIZE, fault, is_fault, least_fault


def agg_of(name, distinct, values):
    """The answer of an agg for the values of its argument; of "rows" the number of whatever is handed in."""
    if name == "rows":
        return len(values)
    there = [value for value in values if value is not None]
    least = least_fault(there)
    if least is not None:
        return least
    if distinct:
        there = list({value: True for value in there})
    if name == "count":
        return len(there)
    return _told(name, there) if there else None


def sized(total):
    """A sum, or the fault that it is too great."""
    return total if -LIMIT < total < LIMIT else fault(SIZE)


def _told(name, values):
    if name == "sum":
        return sized(sum(values))
    if name == "avg":
        return sum(values) // len(values)
    if name == "min":
        return min(values)
    if name == "max":
        return max(values)
    return all(values) if name == "every" else any(values)


def told_of(name, many, total, best):
    """The answer of an agg for so many values with this sum, of which this one is the best."""
    if name in ("rows", "count"):
        return many
    if many == 0:
        return None
    if name == "sum":
        return sized(total)
    return total // many if name == "avg" else best


def counts_each_once(name, distinct):
    """Tell whether it matters for an agg that of equal values just one counts."""
    return distinct and name in ("count", "sum", "avg")


class Tally:
    """An agg of values that are told one after the other; "rows" counts whatever is told."""

    def __init__(self, name):
        self.name = name
        self.many = 0
        self.total = 0
        self.best = None
        self.fault = None

    def add(self, value):
        """Tell one more value."""
        if self.name == "rows":
            self.many += 1
        elif is_fault(value):
            self.fault = least_fault([self.fault, value])
        elif value is not None:
            self.many += 1
            if self.name in ("sum", "avg"):
                self.total += value
            elif self.name != "count":
                self.best = value if self.best is None else self.better(value)

    def better(self, value):
        """What is told of the best value so far and one more."""
        # Some is the greatest, every the least of truth values.
        if self.name in ("max", "some"):
            return max(self.best, value)
        return min(self.best, value)

    def told(self):
        """The answer of the agg."""
        if self.fault is not None:
            return self.fault
        return told_of(self.name, self.many, self.total, self.best)
