"""A second way to pack and unpack columns, as plainly as [2.2] and [2.3] say it; the tests compare with it."""

NUMBERS = {"bool": 0, "int": 1, "text": 2}
USABLE = {"bool": (0, 1, 2), "int": (0, 1, 2, 3, 4), "text": (0, 1, 2)}


def long(n):
    return [n] if n < 128 else [n % 128 + 128] + long(n // 128)


def signed(i):
    return long(2 * i) if i >= 0 else long(-2 * i - 1)


def one(value, kind):
    if kind == "bool":
        return [int(value)]
    if kind == "int":
        return signed(value)
    return long(len(value)) + [ord(sign) for sign in value]


def joined(lists):
    return [x for xs in lists for x in xs]


def mask(values):
    return [sum(2 ** i for i, x in enumerate(values[at:at + 8]) if x is None) for at in range(0, len(values), 8)]


def body(there, kind, packing):
    if packing == 0:
        return joined(one(x, kind) for x in there)
    if packing == 1:
        starts = [i for i in range(len(there)) if i == 0 or there[i] != there[i - 1]]
        ends = starts[1:] + [len(there)]
        return long(len(starts)) + joined(long(b - a) + one(there[a], kind) for a, b in zip(starts, ends) if a < b)
    if packing == 2:
        book = sorted(set(there))
        return long(len(book)) + joined(one(x, kind) for x in book) + joined(long(book.index(x)) for x in there)
    if not there:
        return []
    if packing == 3:
        return signed(there[0]) + joined(signed(b - a) for a, b in zip(there, there[1:]))
    return signed(min(there)) + joined(long(x - min(there)) for x in there)


def pack(values, kind, packing):
    there = [x for x in values if x is not None]
    return [NUMBERS[kind], packing] + long(len(values)) + mask(values) + body(there, kind, packing)


class Wrong(Exception):
    pass


class Scan:
    def __init__(self, data):
        self.rest = list(data)

    def one(self):
        if not self.rest:
            raise Wrong
        return self.rest.pop(0)

    def long(self):
        sevens = [self.one()]
        while sevens[-1] >= 128 and len(sevens) < 20:
            sevens.append(self.one())
        return sum(seven % 128 * 128 ** i for i, seven in enumerate(sevens))

    def signed(self):
        n = self.long()
        return n // 2 if n % 2 == 0 else -(n + 1) // 2

    def value(self, kind):
        if kind == "bool":
            return self.one() != 0
        if kind == "int":
            return self.signed()
        many = self.long()
        return "".join(chr(self.one()) for _ in range(need(many <= 200) and many))

    def body(self, kind, packing, many):
        if packing == 0:
            return [self.value(kind) for _ in range(many)]
        if packing == 1:
            values = []
            for _ in range(need(self.long)):
                length = self.long()
                need(length <= many)
                values += [self.value(kind)] * length
            need(len(values) == many)
            return values
        if packing == 2:
            book = [self.value(kind) for _ in range(need(self.long))]
            places = [self.long() for _ in range(many)]
            need(all(place < len(book) for place in places))
            return [book[place] for place in places]
        if many == 0:
            return []
        first = self.signed()
        if packing == 4:
            return [first + self.long() for _ in range(many)]
        values = [first]
        for _ in range(many - 1):
            values.append(values[-1] + self.signed())
        return values


def need(told):
    """Told itself, or the small number that a call of it gives."""
    if callable(told):
        told = told()
        need(told <= 256)
        return told
    if not told:
        raise Wrong
    return told


def is_value(x, kind):
    if x is None or kind == "bool":
        return True
    if kind == "int":
        return -10 ** 18 < x < 10 ** 18
    return len(x) <= 200 and all(32 <= ord(sign) <= 126 and ord(sign) != 37 for sign in x)


def unpack(data):
    """The triple of unpacked, or None where it must refuse a list of numbers from 0 to 255."""
    try:
        scan = Scan(data)
        number, packing, many = scan.one(), scan.one(), scan.long()
        need(number <= 2 and many <= 256)
        kind = [kind for kind in NUMBERS if NUMBERS[kind] == number][0]
        need(packing in USABLE[kind])
        bits = [scan.one() for _ in range((many + 7) // 8)]
        nulls = [bits[i // 8] // 2 ** (i % 8) % 2 == 1 for i in range(many)]
        there = scan.body(kind, packing, nulls.count(False))
        values = [None if null else there.pop(0) for null in nulls]
        need(all(is_value(x, kind) for x in values))
    except Wrong:
        return None
    # Each column has one list for each packing: what is not it is wrong.
    return (kind, packing, values) if pack(values, kind, packing) == data else None
