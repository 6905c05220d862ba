"""Guesses of how many rows a plan has, and how many different values its columns have."""

from peristyle.plan import parts, used

# No more rows than this are told: what is larger than all else is large enough.
MOST_GUESSED = 10 ** 30


class Guess:
    """A number of rows, how many different values each column has, and the cost so far.

    Statistics may be wrong: there may be columns of which nothing is told.
    """

    def __init__(self, many, different, cost_so_far):
        self.many = min(max(many, 0), MOST_GUESSED)
        self.different = [min(max(told, 1), max(self.many, 1)) for told in different]
        self.cost_so_far = cost_so_far

    def of_column(self, index):
        """How many different values a column has."""
        return self.different[index] if index < len(self.different) else max(self.many, 1)

    def of_expr(self, expr):
        """How many different values an expression has."""
        if expr[0] == "col":
            return self.of_column(expr[1])
        return max([self.of_column(index) for index in used(expr)], default=1)


def share(many, part, whole):
    """A part of so many rows; of some rows at least one."""
    return (many * part + whole - 1) // whole


def kept_of(cond, many, guess):
    """Of so many rows, for how many a condition is True; the guess is that of the rows."""
    for part in parts(cond):
        many = _kept_by(part, many, guess)
    return many


def _kept_by(part, many, guess):
    if part[0] == "const":
        return many if part[2] is True else 0
    if part[0] != "op":
        return share(many, 1, 2)
    _, name, args = part
    if name in ("eq", "same"):
        return share(many, 1, max(guess.of_expr(args[0]), guess.of_expr(args[1])))
    if name == "not":
        return many - kept_of(args[0], many, guess)
    if name == "or":
        return min(many, kept_of(args[0], many, guess) + kept_of(args[1], many, guess))
    if name in ("lt", "le", "gt", "ge"):
        return share(many, 1, 3)
    if name in ("like", "isnull"):
        return share(many, 1, 5)
    return share(many, 9, 10) if name == "ne" else share(many, 1, 2)


def rounds(many):
    """How many rounds sorting so many rows takes."""
    return many.bit_length() + 1
