"""The words, numbers, texts and marks of a query ([4.1], [4.2])."""

from peristyle.errors import BadText
from peristyle.names import RESERVED, is_name
from peristyle.value import LONGEST, SIGNS

GAPS = " \n"
FIGURES = "0123456789"
MOST_FIGURES = 18
WORD_STARTS = "ABCDEFGHIJKLMNOPQRSTUVWXYZabcdefghijklmnopqrstuvwxyz_"
WORD_SIGNS = "ABCDEFGHIJKLMNOPQRSTUVWXYZabcdefghijklmnopqrstuvwxyz_0123456789"
QUOTE = "'"
# A mark stands behind the longer ones that begin with it.
MARKS = ("<>", "<=", ">=", "||", "(", ")", ",", ".", "*", "+", "-", "/", "=", "<", ">")


def words(text):
    """The things of a text as triples (sort, worth, at)."""
    things = []
    read_things(text, things)
    return things


def read_things(text, things):
    """Add the things of a text to a list; BadText at the first that is none, behind those before it."""
    at = _run_end(text, 0, GAPS)
    while at < len(text):
        sort, worth, end = _thing(text, at)
        things.append((sort, worth, at))
        at = _run_end(text, end, GAPS)


def _run_end(text, at, signs):
    while at < len(text) and text[at] in signs:
        at += 1
    return at


def _thing(text, at):
    if text[at] in WORD_STARTS:
        return _word(text, at)
    if text[at] in FIGURES:
        return _number(text, at)
    if text[at] == QUOTE:
        return _text(text, at)
    for mark in MARKS:
        if text[at:at + len(mark)] == mark:
            return "mark", mark, at + len(mark)
    raise BadText(at)


def _word(text, at):
    end = _run_end(text, at, WORD_SIGNS)
    word = text[at:end]
    if not is_reserved(word) and not is_name(word):
        raise BadText(at)
    return "word", word, end


def is_reserved(word):
    """Tell whether a word, in any letters, is reserved."""
    return word.lower() in RESERVED


def _number(text, at):
    end = _run_end(text, at, FIGURES)
    if end - at > MOST_FIGURES:
        raise BadText(at)
    return "number", int(text[at:end]), end


def _text(text, at):
    signs = []
    now = at + 1
    while now < len(text):
        if text[now] not in SIGNS:
            raise BadText(now)
        if text[now] == QUOTE:
            if text[now + 1:now + 2] != QUOTE:
                return "text", "".join(signs), now + 1
            now += 1
        signs.append(text[now])
        if len(signs) > LONGEST:
            raise BadText(at)
        now += 1
    raise BadText(at)
