"""How wide, deep and large a plan is that is right but for that ([5.1])."""

from peristyle.errors import TooMuch
from peristyle.shape import exprs_of, is_plan, plans_of

MOST_WIDE = 24
MOST_LEVELS = 60
MOST_NODES = 2000


def width(plan, tables):
    """The number of columns of a plan; tables is a dict from names to schemas."""
    total = 0
    waiting = [plan]
    while waiting:
        part = waiting.pop()
        word = part[0]
        if word == "scan":
            total += len(tables[part[1]][1])
        elif word in ("rows", "select"):
            total += len(part[1])
        elif word == "group":
            total += len(part[1]) + len(part[2])
        elif word == "join" and part[1] not in ("semi", "anti"):
            waiting.extend(plans_of(part))
        else:
            total += len(part[1]) if word == "window" else 0
            waiting.append(plans_of(part)[0])
    return total


def has_room(node, level, many):
    """Tell whether a plan or an expression may stand at a level if it may have so many nodes."""
    waiting = [(node, level)]
    while waiting:
        part, depth = waiting.pop()
        many -= 1
        if depth > MOST_LEVELS or many < 0:
            return False
        waiting.extend([(below, depth + 1) for below in exprs_of(part) + plans_of(part)])
    return True


def check_limits(plan, tables):
    """Refuse a plan that is too wide, too deep or too large by TooMuch."""
    many = 0
    waiting = [(plan, 1)]
    while waiting:
        node, level = waiting.pop()
        many += 1
        if level > MOST_LEVELS or many > MOST_NODES:
            raise TooMuch()
        if is_plan(node) and width(node, tables) > MOST_WIDE:
            raise TooMuch()
        waiting.extend([(part, level + 1) for part in exprs_of(node) + plans_of(node)])
