"""What is told of several values at once ([6.4])."""

from peristyle.value import LIMIT, SIZE, fault, least_fault


def agg_of(name, distinct, values):
    """The answer of an agg for the values of its argument; of "rows" the number of whatever is handed in."""
    if name == "rows":
        return len(values)
    there = [value for value in values if value is not None]
    least = least_fault(there)
    if least is not None:
        return least
    if distinct:
        there = list({value: True for value in there})
    if name == "count":
        return len(there)
    return _told(name, there) if there else None


def _told(name, values):
    if name == "sum":
        total = sum(values)
        return total if -LIMIT < total < LIMIT else fault(SIZE)
    if name == "avg":
        return sum(values) // len(values)
    if name == "min":
        return min(values)
    if name == "max":
        return max(values)
    return all(values) if name == "every" else any(values)
