"""A plan on its way through steps ([8.1])."""

from peristyle.limits import MOST_NODES, has_room
from peristyle.plan import nodes
from peristyle.sight import Sight, placed, sight_of, with_inputs

# Beyond so many steps a plan is left as it is.
MOST_TAKEN = 150


class Trail:
    """The steps so far, and the sight of the plan to which they lead."""

    def __init__(self, sight, steps):
        self.sight = sight
        self.steps = steps

    def copied(self):
        """A trail that goes on from here by itself."""
        return Trail(self.sight, list(self.steps))

    def sight_at(self, path):
        """The sight of the part to which a path leads."""
        sight = self.sight
        for number in path:
            sight = sight.inputs[number]
        return sight

    def paths(self):
        """The paths to all parts, those further out first."""
        found = []
        waiting = [(self.sight, ())]
        while waiting:
            sight, path = waiting.pop()
            found.append(path)
            for number in reversed(range(len(sight.inputs))):
                waiting.append((sight.inputs[number], path + (number,)))
        return found

    def go(self, rule, path, new):
        """Take a step that puts a plan where a path leads to; tells whether the bounds allow it."""
        old = self.sight_at(path).plan
        whole = self.sight.plan
        room = MOST_NODES - nodes(whole) + nodes(old)
        if len(self.steps) >= MOST_TAKEN or not has_room(new, len(path) + 1, room):
            return False
        self.steps.append((rule, path, placed(whole, path, new)))
        self.sight = _seen_anew(self.sight, path, new)
        return True


def _seen_anew(sight, path, new):
    """The sight of a plan with another one where a path leads to."""
    if not path:
        return sight_of(new, sight.tables)
    inputs = list(sight.inputs)
    inputs[path[0]] = _seen_anew(inputs[path[0]], path[1:], new)
    return Sight(with_inputs(sight.plan, [below.plan for below in inputs]), inputs, sight.tables)
