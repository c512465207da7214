"""The interface: names, parameters, and the files in which they are defined."""

import importlib
import inspect
import unittest

FUNCTIONS = {
    "movedrun.programs": {"is_program": ["thing"], "write_program": ["program"], "read_program": ["text"]},
    "movedrun.checks": {"check": ["program"], "checked": ["program"]},
    "movedrun.meaning": {"mean": ["program", "given", "bound"]},
    "movedrun.modules": {"is_module": ["thing"], "write_module": ["module"], "read_module": ["text"]},
    "movedrun.verifier": {
        "verify": ["module"], "heights": ["module", "index"], "stack_kinds": ["module", "index"],
        "set_locals": ["module", "index"],
    },
    "movedrun.compiler": {"compiled": ["program"], "code_place": ["program", "where"]},
}


class Interface(unittest.TestCase):
    def test_functions(self):
        for name, functions in FUNCTIONS.items():
            module = importlib.import_module(name)
            for word, parameters in functions.items():
                with self.subTest(function=word):
                    function = getattr(module, word)
                    self.assertEqual(function.__module__, name)
                    self.assertEqual(list(inspect.signature(function).parameters), parameters)


if __name__ == "__main__":
    unittest.main()
