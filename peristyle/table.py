"""One table of a store, with all its versions ([3.4], [3.5])."""

from peristyle.column import MOST_VALUES
from peristyle.segment import cut, repacked, segment_of


class Lot:
    """A segment, the versions that have it, and since which version each row is gone."""

    def __init__(self, segment, many, since):
        columns, bounds, _ = segment
        self.columns = columns
        self.bounds = bounds
        self.many = many
        self.since = since
        self.until = None
        self.ends = {}

    def is_at(self, version):
        """Tell whether the version has this segment."""
        return self.since <= version and (self.until is None or version < self.until)

    def gone_at(self, version):
        """The rising indexes of the rows that are not there at the version."""
        return tuple(sorted([index for index, end in self.ends.items() if end <= version]))

    def told_at(self, version):
        """The segment as it is at the version; its lists are new."""
        columns = tuple([list(column) for column in self.columns])
        return (columns, self.bounds, self.gone_at(version))


class Table:
    """The segments of a table, and where each row of the last version lies in them."""

    def __init__(self, schema, version):
        self.form = schema
        self.born = version
        self.lots = []
        self.places = {}

    def tally(self):
        """How often each row stands in the last version: a new dict."""
        return {row: len(places) for row, places in self.places.items()}

    def segments_at(self, version):
        """The segments of a version, without those of which all rows are gone."""
        lots = [lot for lot in self.lots if lot.is_at(version)]
        return [lot.told_at(version) for lot in lots if len(lot.gone_at(version)) < lot.many]

    def turn_to(self, counts, version):
        """Make the version the last one; counts tells how often each row, old or new, stands in it."""
        new = []
        for row, many in counts.items():
            there = len(self.places.get(row, ()))
            if many < there:
                self.end_some(row, there - many, version)
            else:
                new.extend([row] * (many - there))
        self.lay(new, MOST_VALUES, version)

    def end_some(self, row, many, version):
        """Note that so many rows that equal the row are gone since the version."""
        places = self.places[row]
        for _ in range(many):
            lot, index = places.pop()
            lot.ends[index] = version
        if not places:
            del self.places[row]

    def lay(self, rows, size, version):
        """Lay rows that are there since the version into new segments."""
        for part in cut(rows, size):
            lot = Lot(segment_of(self.form, part, None), len(part), version)
            self.lots.append(lot)
            for index, row in enumerate(part):
                self.places.setdefault(row, []).append((lot, index))

    def pack_all(self, packing):
        """Pack all columns of all versions anew."""
        for lot in self.lots:
            lot.columns = tuple([repacked(column, packing) for column in lot.columns])

    def lay_anew(self, size, version):
        """Lay the rows of the last version anew; earlier versions keep their segments."""
        rows = [row for row, places in self.places.items() for _ in places]
        for lot in self.lots:
            if lot.until is None:
                lot.until = version
        self.lots = [lot for lot in self.lots if lot.since < lot.until]
        self.places = {}
        self.lay(rows, size, version)
