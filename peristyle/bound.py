"""The bounds of columns ([2.5])."""


def bound(values):
    """The least value, the greatest one, and the number of nulls."""
    there = [value for value in values if value is not None]
    nulls = len(values) - len(there)
    if not there:
        return (None, None, nulls)
    return (min(there), max(there), nulls)


def may_hold(name, bound, value):
    """Tell whether the operator may be True of a value within the bound and the given one."""
    least, greatest, _ = bound
    if value is None or least is None:
        return False
    if name == "eq":
        return least <= value <= greatest
    if name == "ne":
        return least != value or greatest != value
    if name == "lt":
        return least < value
    if name == "le":
        return least <= value
    if name == "gt":
        return greatest > value
    return greatest >= value
