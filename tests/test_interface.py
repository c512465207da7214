"""The interface: names, parameters, and the files in which they are defined."""

import importlib
import inspect
import unittest

FUNCTIONS = {
    "movedrun.programs": {"is_program": ["thing"], "write_program": ["program"], "read_program": ["text"]},
    "movedrun.checks": {"check": ["program"], "checked": ["program"]},
    "movedrun.meaning": {"mean": ["program", "given", "bound"]},
    "movedrun.modules": {"is_module": ["thing"], "write_module": ["module"], "read_module": ["text"]},
    "movedrun.verifier": {
        "verify": ["module"], "heights": ["module", "index"], "stack_kinds": ["module", "index"],
        "set_locals": ["module", "index"],
    },
    "movedrun.compiler": {"compiled": ["program"], "code_place": ["program", "where"]},
    "movedrun.plain": {
        "run_plain": ["module", "given", "bound"], "frames_at": ["module", "given", "beats"],
        "same_graph": ["graph", "other"], "graph_size": ["graph"], "calls_of": ["module"],
        "reached_from_main": ["module"], "counts": ["module", "given", "bound"], "made": ["module", "given", "bound"],
    },
    "movedrun.heaps": {"heap_of": ["shapes", "sizes", "picture"]},
    "movedrun.judges": {"is_sound": ["shapes", "sizes", "thing", "roots"]},
    "movedrun.plains": {"alike": ["heap", "roots", "other", "others"]},
    "movedrun.views": {"settled": ["module", "view"]},
    "movedrun.strips": {
        "lift": ["module", "function", "guesses", "opened"], "strip_holds": ["module", "thing"],
    },
    "movedrun.machine": {
        "runs_alike": ["module", "given", "bound", "sizes", "schedule", "strips"],
        "outlived": ["module", "given", "bound", "sizes", "schedule", "strips"],
    },
}

HEAP_METHODS = {
    "make": ["kind", "slots", "roots"], "kind": ["address"], "slots": ["address"], "get": ["address", "slot"],
    "put": ["address", "slot", "value"], "graph": ["roots"], "unreached": ["roots"], "minor": ["roots"],
    "settle": ["roots"], "begin": ["roots"], "slice": ["count", "roots"], "whole": ["roots"],
}

# By file and class: its own parameters, and those of its methods.
CLASSES = {
    ("movedrun.heaps", "Heap"): (["shapes", "sizes"], dict(HEAP_METHODS, **{
        "where": ["address"], "remembered": [], "counts": [], "is_marking": [], "picture": [],
    })),
    ("movedrun.plains", "PlainHeap"): (["shapes"], HEAP_METHODS),
    ("movedrun.machine", "Machine"): (["module", "given", "sizes", "schedule"], {
        "run": ["bound"], "tiers": [], "went_out": [], "went_up": [], "beats": [], "graph": [], "collected": [],
        "heap": [], "unreached": [], "hold": ["strip"], "forget": ["function"], "minor": [], "settle": [],
        "slice": ["count"], "whole": [], "out": [], "copy": [],
    }),
}


class Interface(unittest.TestCase):
    def test_functions(self):
        for name, functions in FUNCTIONS.items():
            module = importlib.import_module(name)
            for word, parameters in functions.items():
                with self.subTest(function=word):
                    function = getattr(module, word)
                    self.assertEqual(function.__module__, name)
                    self.assertEqual(list(inspect.signature(function).parameters), parameters)

    def test_classes(self):
        for (name, word), (parameters, methods) in CLASSES.items():
            own = getattr(importlib.import_module(name), word)
            self.assertEqual(own.__module__, name)
            self.assertEqual(list(inspect.signature(own).parameters), parameters)
            for method, names in methods.items():
                with self.subTest(method=method):
                    # It stands in the body of the class itself.
                    function = vars(own)[method]
                    self.assertEqual(list(inspect.signature(function).parameters), ["self"] + names)


if __name__ == "__main__":
    unittest.main()
