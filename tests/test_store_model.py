"""Stores beside a plain model of chapter 3, through many chance commits."""

import random
import unittest
from collections import Counter

from peristyle.errors import BadForm, BadKey, BadName, NoSuch, PeristyleError
from peristyle.store import Store
from tests.tables import rows_told

SCHEMAS = [
    ("one", (("a", "int", False), ("b", "bool", True)), ((0,),)),
    ("two", (("a", "int", True), ("b", "text", True), ("c", "bool", False)), ()),
    ("three", (("a", "text", False), ("b", "int", False)), ((0, 1),)),
    ("four", (("a", "bool", True),), ()),
]
VALUES = {"int": [0, 1, 2, 3, 10 ** 18 - 1], "text": ["", "a", "b"], "bool": [False, True]}


class Model:
    def __init__(self):
        self.version = 0
        self.tables = {}

    def create(self, schema):
        if schema[0] in self.tables:
            raise BadName(-1)
        self.tables[schema[0]] = (schema, {self.version: Counter()})

    def drop(self, name):
        if name not in self.tables:
            raise NoSuch()
        del self.tables[name]

    def commit(self, changes):
        for name, gone, new in changes:
            if name not in self.tables:
                raise NoSuch()
            if any(len(row) != len(self.tables[name][0][1]) for row in gone + new):
                raise BadForm()
        now = {name: Counter(versions[self.version]) for name, (_, versions) in self.tables.items()}
        for name, gone, new in changes:
            for row in gone:
                if not now[name][row]:
                    raise NoSuch()
                now[name][row] -= 1
            now[name].update(new)
        for name, rows in now.items():
            for key in self.tables[name][0][2]:
                found = Counter(tuple(row[i] for i in key) for row in rows.elements())
                if found and max(found.values()) > 1:
                    raise BadKey()
        self.version += 1
        for name, rows in now.items():
            self.tables[name][1][self.version] = Counter(rows.elements())
        return self.version


def some_row(chance, schema):
    row = []
    for _, kind, nullable in schema[1]:
        row.append(chance.choice(VALUES[kind] + [None] * nullable))
    return tuple(row)


def some_change(chance, model):
    schema = chance.choice(SCHEMAS)
    name = schema[0]
    there = []
    if name in model.tables:
        there = list(model.tables[name][1][model.version].elements())
    gone = chance.sample(there, min(len(there), chance.choice([0, 0, 1, 2, 5])))
    new = [some_row(chance, schema) for _ in range(chance.choice([0, 1, 1, 2, 4]))]
    if chance.random() < 0.1:
        gone.append(some_row(chance, schema))
    if chance.random() < 0.03:
        new.append((1, 2, 3, 4, 5))
    return (name, gone, new)


class ModelTest(unittest.TestCase):
    def both(self, store, model, method, *args):
        """Call both; they must tell the same or refuse alike."""
        answers = []
        for thing in (store, model):
            try:
                answers.append(getattr(thing, method)(*args))
            except PeristyleError as error:
                answers.append(type(error))
        self.assertEqual(answers[0], answers[1], (method, args))
        return answers[0]

    def compare(self, store, model):
        self.assertEqual(store.version(), model.version)
        self.assertEqual(store.schemas(), tuple(schema for schema, _ in model.tables.values()))
        for schema in SCHEMAS:
            known = model.tables.get(schema[0], (None, {}))[1]
            for version in range(-1, model.version + 2):
                if version in known:
                    self.assertEqual(rows_told(self, store, schema[0], version), known[version])
                else:
                    with self.assertRaises(NoSuch):
                        store.rows(schema[0], version)
                    with self.assertRaises(NoSuch):
                        store.segments(schema[0], version)

    def test_many_commits(self):
        refusals = Counter()
        for seed in range(20):
            chance = random.Random(seed)
            store, model = Store(), Model()
            for step in range(60):
                luck = chance.random()
                if luck < 0.1:
                    self.both(store, model, "create", chance.choice(SCHEMAS))
                elif luck < 0.12:
                    self.both(store, model, "drop", chance.choice(SCHEMAS)[0])
                elif luck < 0.2 and model.tables:
                    store.settle(chance.choice(list(model.tables)), chance.choice([1, 2, 3, 256]))
                elif luck < 0.3 and model.tables:
                    store.pack(chance.choice(list(model.tables)), chance.randrange(5))
                else:
                    changes = [some_change(chance, model) for _ in range(chance.choice([0, 1, 1, 2, 3]))]
                    refusals[self.both(store, model, "commit", changes) in (NoSuch, BadForm, BadKey)] += 1
            self.compare(store, model)
        self.assertGreater(min(refusals[True], refusals[False]), 100)


if __name__ == "__main__":
    unittest.main()
