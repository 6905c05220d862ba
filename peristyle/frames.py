"""What the functions of a window tell for the rows of one part ([6.6])."""

from peristyle.aggs import agg_of


class Part:
    """The rows of a part in their order: what each has in the order and the argument of a function."""

    def __init__(self, ranks, worths):
        self.ranks = ranks
        self.worths = worths
        self.many = len(ranks)
        self.firsts = []
        self.groups = []
        self.lasts = [0] * self.many
        self.find_peers()
        self.spans = {}

    def find_peers(self):
        """For each row the places of its first and last peers, and the number of its group of peers."""
        for place, rank in enumerate(self.ranks):
            if place == 0 or rank != self.ranks[place - 1]:
                self.firsts.append(place)
                self.groups.append(self.groups[-1] + 1 if place else 0)
            else:
                self.firsts.append(self.firsts[-1])
                self.groups.append(self.groups[-1])
        last = self.many - 1
        for place in reversed(range(self.many)):
            self.lasts[place] = last
            if self.firsts[place] == place:
                last = place - 1

    def answer(self, name, place, frame):
        """What a function tells for the row at a place."""
        if name == "place":
            return place + 1
        if name == "rank":
            return self.firsts[place] + 1
        if name == "dense":
            return self.groups[place] + 1
        if name == "lag":
            return self.worths[place - 1] if place > 0 else None
        if name == "lead":
            return self.worths[place + 1] if place + 1 < self.many else None
        if frame is None:
            return self.over(name, 0, self.lasts[place])
        first = max(0, self.edge(frame[0], place))
        return self.over(name, first, min(self.many - 1, self.edge(frame[1], place)))

    def edge(self, edge, place):
        """The place that an edge means; it may be outside of the part."""
        word, number = edge
        if word == "start":
            return 0
        if word == "end":
            return self.many - 1
        return place - number if word == "before" else place + number

    def over(self, name, first, last):
        """What an agg tells for the rows from one place to another."""
        if (first, last) not in self.spans:
            self.spans[(first, last)] = agg_of(name, False, self.worths[first:max(first, last + 1)])
        return self.spans[(first, last)]
