"""The choice of methods for a plan, by what they are thought to cost ([9.4])."""

from peristyle.estimate import guess_over
from peristyle.methods import ways
from peristyle.running import inputs_of


def cheapest(sight, stats):
    """The running plan of a plan that is thought to cost least, and its guess."""
    return chosen(sight, stats, ())


def chosen(sight, stats, words):
    """The same, but methods of these words are taken wherever there are some."""
    inputs = [chosen(below, stats, words) for below in sight.inputs]
    found = ways(sight, [running for running, _ in inputs])
    wished = [running for running in found if running[0] in words]
    told = []
    for running in wished or found:
        below = [guess for _, guess in inputs] if inputs_of(running) else []
        told.append((running, guess_over(running, below, stats)))
    return min(told, key=lambda pair: pair[1].cost_so_far)
