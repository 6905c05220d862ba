"""What plans and expressions mean (chapter 6)."""

from peristyle.aggs import agg_of
from peristyle.frames import Part
from peristyle.limits import width
from peristyle.operators import worked
from peristyle.ordering import by_items, by_rows
from peristyle.shape import plans_of
from peristyle.value import MANY, fault, is_fault, least_fault, sorted_rows


def answer(plan, tables):
    """The rows of a right plan, in their order, or a fault."""
    rows = bag(plan, [], tables)
    if is_fault(rows):
        return rows
    least = _least_in(rows)
    if least is not None:
        return least
    return rows if has_order(plan) else sorted_rows(rows)


def has_order(plan):
    """Tell whether a plan has an order."""
    while plan[0] == "select":
        plan = plan[2]
    return plan[0] == "top"


def value_of(expr, row, outers, tables):
    """The value or fault of an expression for a row."""
    word = expr[0]
    if word == "col":
        return row[expr[1]]
    if word == "const":
        return expr[2]
    if word == "op":
        return worked(expr[1], tuple([value_of(arg, row, outers, tables) for arg in expr[2]]))
    if word == "outer":
        return outers[expr[1] - 1][expr[2]]
    if word == "case":
        return _case_value(expr, row, outers, tables)
    rows = bag(expr[-1], [row, *outers], tables)
    if is_fault(rows):
        return rows
    if word == "exists":
        return len(rows) > 0
    if word == "scalar":
        return _only_value(rows)
    return _in_value(value_of(expr[1], row, outers, tables), rows)


def _case_value(expr, row, outers, tables):
    _, pairs, other = expr
    for cond, value in pairs:
        told = value_of(cond, row, outers, tables)
        if told is True:
            return value_of(value, row, outers, tables)
        if is_fault(told):
            return told
    return value_of(other, row, outers, tables)


def _only_value(rows):
    if len(rows) > 1:
        return fault(MANY)
    return rows[0][0] if rows else None


def _in_value(value, rows):
    told = False
    for row in rows:
        told = worked("or", (told, worked("eq", (value, row[0]))))
    return told


def bag(plan, outers, tables):
    """The rows of a plan, faults in them standing as values, or the fault with which it fails."""
    inputs = [bag(below, outers, tables) for below in plans_of(plan)]
    least = least_fault(inputs)
    if least is not None:
        return least
    work = WORK[plan[0]]
    return work(plan, inputs, outers, tables)


def _least_in(rows):
    """The least fault that stands in rows, or None."""
    return least_fault([value for row in rows for value in row])


def _values(expr, rows, outers, tables):
    return [value_of(expr, row, outers, tables) for row in rows]


def _scan(plan, inputs, outers, tables):
    return [tuple(row) for row in tables[plan[1]][1]]


def _rows(plan, inputs, outers, tables):
    return list(plan[2])


def _where(plan, inputs, outers, tables):
    values = _values(plan[1], inputs[0], outers, tables)
    least = least_fault(values)
    if least is not None:
        return least
    return [row for row, value in zip(inputs[0], values) if value is True]


def _select(plan, inputs, outers, tables):
    return [tuple([value_of(expr, row, outers, tables) for expr in plan[1]]) for row in inputs[0]]


def _join(plan, inputs, outers, tables):
    _, kind, cond, left_plan, right_plan = plan
    left, right = inputs
    partners = []
    faults = []
    for at, row in enumerate(left):
        for behind, other in enumerate(right):
            value = value_of(cond, row + other, outers, tables)
            if value is True:
                partners.append((at, behind))
            elif is_fault(value):
                faults.append(value)
    if faults:
        return least_fault(faults)
    lefts = {at: True for at, _ in partners}
    if kind == "semi":
        return [row for at, row in enumerate(left) if at in lefts]
    if kind == "anti":
        return [row for at, row in enumerate(left) if at not in lefts]
    rows = [left[at] + right[behind] for at, behind in partners]
    schemas = {name: tables[name][0] for name in tables}
    if kind in ("left", "full"):
        nulls = (None,) * width(right_plan, schemas)
        rows.extend([row + nulls for at, row in enumerate(left) if at not in lefts])
    if kind in ("right", "full"):
        rights = {behind: True for _, behind in partners}
        nulls = (None,) * width(left_plan, schemas)
        rows.extend([nulls + row for at, row in enumerate(right) if at not in rights])
    return rows


def _group(plan, inputs, outers, tables):
    _, group_keys, aggs, _ = plan
    rows = inputs[0]
    told = [tuple([value_of(expr, row, outers, tables) for expr in group_keys]) for row in rows]
    least = _least_in(told)
    if least is not None:
        return least
    groups = {} if group_keys else {(): []}
    for values, row in zip(told, rows):
        groups.setdefault(values, []).append(row)
    found = []
    for values, members in groups.items():
        found.append(values + tuple([_agg(agg, members, outers, tables) for agg in aggs]))
    return found


def _agg(agg, rows, outers, tables):
    name, distinct, arg = agg
    return agg_of(name, distinct, rows if arg is None else _values(arg, rows, outers, tables))


def _distinct(plan, inputs, outers, tables):
    least = _least_in(inputs[0])
    return list({row: True for row in inputs[0]}) if least is None else least


def _union(plan, inputs, outers, tables):
    return inputs[0] + inputs[1]


def _except(plan, inputs, outers, tables):
    return _divided(inputs, False)


def _meet(plan, inputs, outers, tables):
    return _divided(inputs, True)


def _divided(inputs, wanted):
    """The rows of left that have, or have not, a row of right of their own."""
    left, right = inputs
    least = _least_in(left + right)
    if least is not None:
        return least
    counts = {}
    for row in right:
        counts[row] = counts.get(row, 0) + 1
    found = []
    for row in left:
        has_one = counts.get(row, 0) > 0
        if has_one:
            counts[row] -= 1
        if has_one == wanted:
            found.append(row)
    return found


def _window(plan, inputs, outers, tables):
    rows = inputs[0]
    least = _least_in(rows)
    first = by_rows(rows) if least is None else []
    columns = []
    faults = [] if least is None else [least]
    for fun in plan[1]:
        sorting = [_values(expr, rows, outers, tables) for expr in fun[2]]
        sorting.extend([_values(item[0], rows, outers, tables) for item in fun[3]])
        least = _least_in(sorting)
        if least is not None:
            faults.append(least)
        if not faults:
            args = rows if fun[1] is None else _values(fun[1], rows, outers, tables)
            columns.append(_fun_column(fun, first, sorting, args))
    if faults:
        return least_fault(faults)
    return [row + tuple([column[index] for column in columns]) for index, row in enumerate(rows)]


def _fun_column(fun, first, sorting, args):
    """What the function of a window tells, by the indexes of the rows; first are these by the order of rows."""
    name, _, partition, order, frame = fun
    ranks = sorting[len(partition):]
    found = {}
    for indexes in _split(first, sorting[:len(partition)]):
        inside = by_items(indexes, ranks, order)
        part = Part([tuple([values[index] for values in ranks]) for index in inside], [args[index] for index in inside])
        for place, index in enumerate(inside):
            found[index] = part.answer(name, place, frame)
    return found


def _split(indexes, columns):
    """The indexes, in their order, in lists of those that are alike in all columns."""
    groups = {}
    for index in indexes:
        groups.setdefault(tuple([values[index] for values in columns]), []).append(index)
    return list(groups.values())


def _top(plan, inputs, outers, tables):
    _, order, limit, offset, _ = plan
    rows = inputs[0]
    sorting = [_values(item[0], rows, outers, tables) for item in order]
    least = _least_in(rows + sorting)
    if least is not None:
        return least
    inside = by_items(by_rows(rows), sorting, order)
    end = len(inside) if limit is None else offset + limit
    return [rows[index] for index in inside[offset:end]]


WORK = {
    "scan": _scan, "rows": _rows, "where": _where, "select": _select, "join": _join, "group": _group,
    "distinct": _distinct, "union": _union, "except": _except, "meet": _meet, "window": _window, "top": _top,
}
