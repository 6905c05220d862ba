"""The operators: their kinds and their answers ([1.4] to [1.6])."""

from peristyle.value import CAST, DIV, KINDS, LIMIT, LONGEST, SIZE, fault, is_fault, least_fault

# Any kind; where it stands several times, it is the same kind each time.
ANY = "any"
FIGURES = 18

SIGNATURES = {
    "add": (("int", "int"), "int"),
    "sub": (("int", "int"), "int"),
    "mul": (("int", "int"), "int"),
    "div": (("int", "int"), "int"),
    "mod": (("int", "int"), "int"),
    "neg": (("int",), "int"),
    "abs": (("int",), "int"),
    "eq": (("any", "any"), "bool"),
    "ne": (("any", "any"), "bool"),
    "lt": (("any", "any"), "bool"),
    "le": (("any", "any"), "bool"),
    "gt": (("any", "any"), "bool"),
    "ge": (("any", "any"), "bool"),
    "cat": (("text", "text"), "text"),
    "size": (("text",), "int"),
    "upper": (("text",), "text"),
    "lower": (("text",), "text"),
    "part": (("text", "int", "int"), "text"),
    "like": (("text", "text"), "bool"),
    "number": (("text",), "int"),
    "words": (("int",), "text"),
    "not": (("bool",), "bool"),
    "and": (("bool", "bool"), "bool"),
    "or": (("bool", "bool"), "bool"),
    "isnull": (("any",), "bool"),
    "same": (("any", "any"), "bool"),
    "coalesce": (("any", "any"), "any"),
    "nullif": (("any", "any"), "any"),
    "most": (("any", "any"), "any"),
    "least": (("any", "any"), "any"),
}

NOT_STRICT = ("and", "or", "isnull", "same", "coalesce", "nullif")
FAULTY = ("add", "sub", "mul", "div", "mod", "cat", "number")


def _sized(n):
    return n if -LIMIT < n < LIMIT else fault(SIZE)


def _add(a, b):
    return _sized(a + b)


def _sub(a, b):
    return _sized(a - b)


def _mul(a, b):
    return _sized(a * b)


def _div(a, b):
    return fault(DIV) if b == 0 else _sized(a // b)


def _mod(a, b):
    return fault(DIV) if b == 0 else _sized(a % b)


def _neg(a):
    return -a


def _abs(a):
    return abs(a)


def _eq(a, b):
    return a == b


def _ne(a, b):
    return a != b


def _lt(a, b):
    return a < b


def _le(a, b):
    return a <= b


def _gt(a, b):
    return a > b


def _ge(a, b):
    return a >= b


def _cat(a, b):
    return a + b if len(a) + len(b) <= LONGEST else fault(SIZE)


def _size(a):
    return len(a)


def _upper(a):
    return a.upper()


def _lower(a):
    return a.lower()


def _part(text, first, many):
    start = max(first, 1)
    end = first + many
    # A place before the first sign must not be counted from the end.
    return text[start - 1:end - 1] if start < end else ""


def _fits_sign(pattern, place, sign):
    return place < len(pattern) and pattern[place] in ("?", sign)


def _like(text, pattern):
    at = 0
    place = 0
    star = -1
    tried = 0
    while at < len(text):
        if place < len(pattern) and pattern[place] == "*":
            star = place
            tried = at
            place += 1
        elif _fits_sign(pattern, place, text[at]):
            at += 1
            place += 1
        elif star >= 0:
            # Only the last star need take more: what stood before it fits already.
            tried += 1
            at = tried
            place = star + 1
        else:
            return False
    return pattern[place:].strip("*") == ""


def _number(text):
    figures = text[1:] if text.startswith("-") else text
    if len(figures) > FIGURES or not figures.isdigit():
        return fault(CAST)
    return int(text)


def _words(a):
    return str(a)


def _not(a):
    return not a


def _decided(a, b, deciding):
    if deciding in (a, b):
        return deciding
    if a is None or b is None:
        return None
    least = least_fault([a, b])
    return not deciding if least is None else least


def _and(a, b):
    return _decided(a, b, False)


def _or(a, b):
    return _decided(a, b, True)


def _isnull(a):
    return a if is_fault(a) else a is None


def _same(a, b):
    least = least_fault([a, b])
    return a == b if least is None else least


def _coalesce(a, b):
    return b if a is None else a


def _nullif(a, b):
    if a is None or is_fault(a):
        return a
    if is_fault(b):
        return b
    return None if a == b else a


def _most(a, b):
    return a if a > b else b


def _least(a, b):
    return a if a < b else b


WORK = {
    "add": _add,
    "sub": _sub,
    "mul": _mul,
    "div": _div,
    "mod": _mod,
    "neg": _neg,
    "abs": _abs,
    "eq": _eq,
    "ne": _ne,
    "lt": _lt,
    "le": _le,
    "gt": _gt,
    "ge": _ge,
    "cat": _cat,
    "size": _size,
    "upper": _upper,
    "lower": _lower,
    "part": _part,
    "like": _like,
    "number": _number,
    "words": _words,
    "not": _not,
    "and": _and,
    "or": _or,
    "isnull": _isnull,
    "same": _same,
    "coalesce": _coalesce,
    "nullif": _nullif,
    "most": _most,
    "least": _least,
}


def kind_of(name, kinds):
    """The kind of the answer of an operator, or None if it does not take these kinds."""
    if name not in SIGNATURES:
        return None
    wanted, answer = SIGNATURES[name]
    if len(kinds) != len(wanted) or [kind for kind in kinds if kind not in KINDS]:
        return None
    for kind, want in zip(kinds, wanted):
        if kind != (kinds[0] if want == ANY else want):
            return None
    return kinds[0] if answer == ANY else answer


def worked(name, args):
    """The answer of an operator for values and faults of kinds that fit."""
    if is_strict(name):
        if None in args:
            return None
        least = least_fault(args)
        if least is not None:
            return least
    work = WORK[name]
    return work(*args)


def may_fault(name):
    """Tell whether an operator can give a fault where no argument is one."""
    return name in FAULTY


def is_strict(name):
    """Tell whether an operator is strict."""
    return name in SIGNATURES and name not in NOT_STRICT
