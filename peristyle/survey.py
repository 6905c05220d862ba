"""A first look at what may be a plan: whether it can be looked at closely, and has its tables ([5.1])."""

from peristyle.errors import NoSuch, TooMuch
from peristyle.shape import EXPR_WORDS, PLAN_WORDS

MOST_TUPLES = 50000
MOST_NESTED = 100


def survey(thing, tables):
    """TooMuch if there are too many tuples or they are nested too deep, NoSuch if a table is not there."""
    is_complete = True
    many = 0
    waiting = [(thing, 0)]
    # No recursion: anything may be nested here, and far deeper than plans are.
    while waiting:
        part, level = waiting.pop()
        many += 1
        level += 1 if _has_word(part) else 0
        if many > MOST_TUPLES or level > MOST_NESTED:
            raise TooMuch()
        if _is_scan(part) and part[1] not in tables:
            is_complete = False
        if not _is_rows(part):
            waiting.extend([(below, level) for below in part if isinstance(below, tuple)])
    if not is_complete:
        raise NoSuch()


def _has_word(part):
    return len(part) > 0 and isinstance(part[0], str) and (part[0] in PLAN_WORDS or part[0] in EXPR_WORDS)


def _is_scan(part):
    return _has_word(part) and part[0] == "scan" and len(part) == 2 and isinstance(part[1], str)


def _is_rows(part):
    # The function of a window that counts rows has the same word, but five parts.
    return _has_word(part) and part[0] == "rows" and len(part) == 3
