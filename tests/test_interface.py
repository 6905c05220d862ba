"""The interface: its names, their arguments, and the files in which they are defined."""

import ast
import importlib
import inspect
import pathlib
import unittest

PACKAGE = pathlib.Path(__file__).resolve().parent.parent / "peristyle"

FUNCTIONS = {
    "value": {"is_value": ["x", "kind"], "fault": ["code"], "is_fault": ["x"], "least_fault": ["xs"],
              "order": ["a", "b"], "row_order": ["a", "b"], "sorted_rows": ["rows"]},
    "operators": {"kind_of": ["name", "kinds"], "worked": ["name", "args"], "may_fault": ["name"],
                  "is_strict": ["name"]},
    "column": {"packed": ["values", "kind", "packing"], "unpacked": ["data"], "best": ["values", "kind"]},
    "bound": {"bound": ["values"], "may_hold": ["name", "bound", "value"]},
    "schema": {"check_schema": ["schema"], "fits": ["schema", "row"]},
    "store": {"segmented": ["schema", "rows", "packing", "size"], "segment_rows": ["schema", "segment"]},
    "words": {"words": ["text"]},
    "grammar": {"parse": ["text"]},
    "printer": {"printed": ["tree"]},
    "binder": {"bind": ["tree", "schemas"]},
    "plan": {"kinds": ["plan", "schemas"], "nodes": ["plan"], "used": ["expr"], "put_in": ["expr", "exprs"],
             "moved": ["expr", "places"], "parts": ["cond"], "joined": ["conds"]},
    "meaning": {"answer": ["plan", "tables"], "value_of": ["expr", "row", "outers", "tables"],
                "bag": ["plan", "outers", "tables"]},
    "facts": {"facts": ["plan", "schemas"], "safe": ["expr", "faults"]},
    "rules": {"found": ["plan", "schemas"]},
    "checker": {"takes": ["plan", "step", "schemas"], "takes_all": ["plan", "steps", "schemas"]},
    "estimate": {"size": ["running", "stats"], "cost": ["running", "stats"]},
    "running": {"plan_of": ["running"], "simple": ["plan"]},
    "optimise": {"candidates": ["plan", "schemas", "stats"]},
    "run": {"run": ["running", "tables"]},
    "view": {"can_keep": ["plan", "schemas"], "change_of": ["plan", "schemas", "tables", "change"]},
}
CLASSES = {
    "errors": {"PeristyleError": {}, "BadText": {"__init__": ["self", "at"]}, "BadName": {"__init__": ["self", "at"]},
               "BadKind": {"__init__": ["self", "at"]}, "BadForm": {}, "BadKey": {}, "NoSuch": {}, "TooMuch": {}},
    "store": {"Store": {"create": ["self", "schema"], "drop": ["self", "name"], "schemas": ["self"],
                        "schema": ["self", "name"], "version": ["self"], "commit": ["self", "changes"],
                        "rows": ["self", "name", "version"], "segments": ["self", "name", "version"],
                        "pack": ["self", "name", "packing"], "settle": ["self", "name", "size"]}},
    "view": {"View": {"__init__": ["self", "plan", "schemas", "tables"], "rows": ["self"], "change": ["self", "change"],
                      "looked": ["self"]}},
    "database": {"Database": {"create": ["self", "schema"], "drop": ["self", "name"], "commit": ["self", "changes"],
                              "schemas": ["self"], "version": ["self"], "pack": ["self", "name", "packing"],
                              "settle": ["self", "name", "size"], "view": ["self", "name", "text"],
                              "drop_view": ["self", "name"], "views": ["self"], "kept": ["self", "name"],
                              "query": ["self", "text"], "explain": ["self", "text"]}},
}
# What is passed by name alone, with what it is without that.
BY_NAME = {
    "run": {"budget": 1000, "batch": 64, "workers": 1, "turns": ()},
    "query": {"version": None, "choice": 0, "budget": 1000, "batch": 64, "workers": 1, "turns": ()},
    "explain": {"choice": 0, "ran": False},
}


def body_of(module):
    return ast.parse((PACKAGE / (module + ".py")).read_text()).body


class InterfaceTest(unittest.TestCase):
    def check_arguments(self, thing, names):
        """Each may be passed by place and by name, and must be passed."""
        parameters = list(inspect.signature(thing).parameters.values())
        named = [parameter for parameter in parameters if parameter.kind == parameter.KEYWORD_ONLY]
        self.assertEqual({parameter.name: parameter.default for parameter in named}, BY_NAME.get(thing.__name__, {}))
        parameters = [parameter for parameter in parameters if parameter not in named]
        self.assertEqual([parameter.name for parameter in parameters], names)
        for parameter in parameters:
            self.assertEqual(parameter.kind, parameter.POSITIONAL_OR_KEYWORD)
            self.assertIs(parameter.default, parameter.empty)

    def test_functions(self):
        for module, functions in FUNCTIONS.items():
            loaded = importlib.import_module("peristyle." + module)
            defined = [node.name for node in body_of(module) if isinstance(node, ast.FunctionDef)]
            for name, arguments in functions.items():
                with self.subTest(module=module, name=name):
                    self.assertIn(name, defined)
                    self.check_arguments(getattr(loaded, name), arguments)

    def test_classes(self):
        for module, classes in CLASSES.items():
            loaded = importlib.import_module("peristyle." + module)
            defined = {node.name: node for node in body_of(module) if isinstance(node, ast.ClassDef)}
            for name, methods in classes.items():
                self.assertIn(name, defined)
                own = [node.name for node in defined[name].body if isinstance(node, ast.FunctionDef)]
                for method, arguments in methods.items():
                    with self.subTest(module=module, name=name, method=method):
                        self.assertIn(method, own)
                        self.check_arguments(getattr(getattr(loaded, name), method), arguments)

    def test_arguments_by_name(self):
        from peristyle import bound, column, operators, schema, store, value
        self.assertIs(value.is_value(x=1, kind="int"), True)
        self.assertEqual(operators.worked(name="add", args=(1, 2)), 3)
        self.assertEqual(column.packed(values=[1], kind="int", packing=0), [1, 0, 1, 0, 2])
        self.assertEqual(column.unpacked(data=[1, 0, 1, 0, 2]), ("int", 0, [1]))
        self.assertIs(bound.may_hold(name="eq", bound=(1, 2, 0), value=1), True)
        self.assertIs(schema.fits(schema=("t", (("a", "int", False),), ()), row=(1,)), True)
        self.assertEqual(store.Store().commit(changes=[]), 1)


if __name__ == "__main__":
    unittest.main()
