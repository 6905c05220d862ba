"""Numbers and values as lists of numbers from 0 to 255, written and read ([2.2])."""

from peristyle.errors import BadForm
from peristyle.value import LONGEST, SIGNS

# Nothing in a column is as long as 2 ** 63: the difference of two values, doubled, is less.
MOST_SEVENS = 9
BLANK = 32
PERCENT = 37
TILDE = 126


def long_number(n):
    """A number from 0 on, in sevens."""
    written = []
    while n >= 128:
        written.append(n % 128 + 128)
        n = n // 128
    written.append(n)
    return written


def signed_number(i):
    """A number that may be below 0, in sevens."""
    return long_number(2 * i if i >= 0 else -2 * i - 1)


def value_numbers(value, kind):
    """The numbers of a value that is not null."""
    if kind == "int":
        return signed_number(value)
    if kind == "bool":
        return [1 if value else 0]
    return long_number(len(value)) + [ord(sign) for sign in value]


class Reader:
    """Reads a list of numbers from the front; BadForm where it ends too early."""

    def __init__(self, data):
        self.data = data
        self.at = 0

    def one(self):
        """The next number."""
        if self.at == len(self.data):
            raise BadForm()
        self.at += 1
        return self.data[self.at - 1]

    def several(self, many):
        """A list of the next numbers."""
        return [self.one() for _ in range(many)]

    def long(self):
        """A long number; BadForm if it is longer than any in a column."""
        n = 0
        weight = 1
        for _ in range(MOST_SEVENS):
            seven = self.one()
            n += seven % 128 * weight
            if seven < 128:
                return n
            weight *= 128
        raise BadForm()

    def signed(self):
        """A number that may be below 0."""
        n = self.long()
        return n // 2 if n % 2 == 0 else -(n // 2) - 1

    def value(self, kind):
        """A value that is not null."""
        if kind == "int":
            return self.signed()
        if kind == "bool":
            return self.one() == 1
        many = self.long()
        if many > LONGEST:
            raise BadForm()
        return "".join([_sign_of(code) for code in self.several(many)])


def _sign_of(code):
    if code < BLANK or code > TILDE or code == PERCENT:
        raise BadForm()
    return SIGNS[code - BLANK] if code < PERCENT else SIGNS[code - BLANK - 1]
