"""Running plans: their answers and their counts ([10.2], [10.3])."""

from peristyle.meaning import has_order
from peristyle.runhost import Host
from peristyle.running import plan_of
from peristyle.spool import Course
from peristyle.value import least_fault, sorted_rows


class Answer:
    """The rows that a run hands on at the end."""

    def __init__(self):
        self.lines = []

    def receive(self, rows, number):
        """Take some rows."""
        self.lines.extend(rows)


def run(running, tables, *, budget=1000, batch=64, workers=1, turns=()):
    """The answer of a running plan, and the counts; tables is a dict from names to pairs (schema, segments)."""
    course = Course(tables, budget, batch, workers, turns)
    found = Answer()
    told = Host(course).operator_of(running).go([], found, 0)
    if told is None:
        told = least_fault([value for row in found.lines for value in row])
    if told is None:
        told = found.lines if has_order(plan_of(running)) else sorted_rows(found.lines)
    return told, course.told()
