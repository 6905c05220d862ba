"""The keys of plans: columns in which no two of their rows are alike ([7.2])."""

from peristyle.plan import parts

# The keys of many joined sides are far too many to go on with all of them.
MOST_JOINED = 500


def without_twins(group_keys):
    """The keys without those that stand there twice."""
    return list({told: True for told in group_keys})


def select_keys(exprs, inner):
    """The keys of a select over rows with some keys: those of which each column is an expression."""
    found = []
    for told in inner:
        columns = [("col", index) for index in told]
        if all([column in exprs for column in columns]):
            found.append(tuple(sorted([exprs.index(column) for column in columns])))
    return without_twins(found)


def join_keys(kind, cond, left, right, many, most):
    """The keys of a join; left and right are those of its inputs, many the number of columns of left.

    If the keys of both sides can be joined in more than most ways, only the least ones are told; None: in any case all.
    """
    if kind in ("semi", "anti"):
        return list(left)
    if kind not in ("inner", "left"):
        return []
    moved_right = [tuple([index + many for index in told]) for told in right]
    pairs = equal_columns(cond, many)
    # Each row of one side has then at most one partner.
    alone = []
    if has_key(left if kind == "inner" else [], [pair[0] for pair in pairs]):
        alone.extend(moved_right)
    if has_key(moved_right, [pair[1] for pair in pairs]):
        alone.extend(left)
    if most is None or len(left) * len(right) <= most:
        found = [told + other for told in left for other in moved_right]
        return without_twins(found + alone)
    # Each joined key has one of those in it that hold alone.
    if alone:
        return without_twins(alone)
    return [told + other for told in _least_keys(left, most) for other in _least_keys(moved_right, most)]


def _least_keys(group_keys, most):
    """The keys that have no other one in them; a list of more than most is made of such keys already."""
    if len(group_keys) > most:
        return group_keys
    least = []
    for told in sorted(group_keys, key=len):
        if not has_key(least, told):
            least.append(told)
    return least


def equal_columns(cond, many):
    """The pairs of a left and a right column that the parts of a condition hold for equal."""
    pairs = []
    for part in parts(cond):
        if part[0] == "op" and part[1] == "eq" and part[2][0][0] == "col" and part[2][1][0] == "col":
            least, greatest = sorted([part[2][0][1], part[2][1][1]])
            if least < many <= greatest:
                pairs.append((least, greatest))
    return pairs


def has_key(group_keys, columns):
    """Tell whether the columns have a key among them."""
    return any([all([index in columns for index in told]) for told in group_keys])
