"""The optimiser: in which ways a plan may be run ([9.1] to [9.4])."""

from peristyle.choice import cheapest, chosen
from peristyle.estimate import cost
from peristyle.plan import nodes
from peristyle.rules import afters
from peristyle.running import simple
from peristyle.sight import sight_of
from peristyle.tidy import neaten, tidy
from peristyle.trail import Trail

MOST_CANDIDATES = 12
MOST_ROUNDS = 8
# Plans are looked at in so many other orders of their joins; of large plans fewer.
MOST_LOOKED = 40
LOOKED_NODES = 6000
REORDERING = ("turn", "turnback", "swap", "swapouter", "semi")


def candidates(plan, schemas, stats):
    """Pairs (steps, running) for a right plan, the one that is thought to cost least first."""
    start = Trail(sight_of(plan, {schema[0]: schema for schema in schemas}), [])
    neat = start.copied()
    tidy(neat)
    best, others = _reordered(neat, stats)
    found = Found(stats)
    for trail in (best, neat, start):
        found.add(trail, cheapest(trail.sight, stats)[0])
    found.add(start, simple(plan))
    for words in (("merge", "sorted"), ("hash", "group"), ("loop",)):
        found.add(neat, chosen(neat.sight, stats, words)[0])
    for trail in others:
        found.add(trail, cheapest(trail.sight, stats)[0])
    return found.in_order()


class Found:
    """The candidates so far, each running plan once."""

    def __init__(self, stats):
        self.stats = stats
        self.runnings = []
        self.lines = []

    def add(self, trail, running):
        """Add one more, unless there are enough."""
        if running not in self.runnings and len(self.runnings) < MOST_CANDIDATES:
            self.runnings.append(running)
            self.lines.append((cost(running, self.stats), list(trail.steps), running))

    def in_order(self):
        """All of them, by their costs."""
        return [(steps, running) for _, steps, running in sorted(self.lines, key=lambda told: told[0])]


def _reordered(neat, stats):
    """The best of the trails that go on with other orders of joins, and those that were looked at first."""
    left = min(MOST_LOOKED, LOOKED_NODES // nodes(neat.sight.plan))
    best = neat
    least = cheapest(neat.sight, stats)[1].cost_so_far
    first = []
    for _ in range(MOST_ROUNDS):
        found = _neighbours(best, left)
        left -= len(found)
        first = first or found
        told = [(cheapest(trail.sight, stats)[1].cost_so_far, trail) for trail in found]
        if not told:
            break
        cost_now, trail = min(told, key=lambda pair: pair[0])
        if cost_now >= least:
            break
        best, least = trail, cost_now
    return best, first


def _neighbours(trail, most):
    """At most so many trails that go one step further, with another order of joins."""
    found = []
    for path in trail.paths():
        sight = trail.sight_at(path)
        if sight.plan[0] != "join":
            continue
        for rule in REORDERING:
            for new in afters(rule, sight):
                other = trail.copied()
                if len(found) < most and other.go(rule, path, new):
                    neaten(other, path)
                    found.append(other)
    return found
