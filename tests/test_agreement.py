"""Many programs and modules: what a program means is what its code does, and what is let by does what its kinds let."""

import random
import unittest

from movedrun.compiler import compiled
from movedrun.modules import is_module, read_module, write_module
from movedrun.programs import read_program, write_program
from movedrun.verifier import heights, set_locals, stack_kinds, verify
from tests.generating import made_programs
from tests.running import run_module
from tests.test_compiler import Compiling, Tables

SPOILERS = (
    ("nil",), ("int", 0), ("int", 1), ("truth", True), ("text", "ab"), ("drop",), ("twin",), ("add",), ("sub",), ("same",),
    ("less",), ("not",), ("at",), ("set",), ("size",), ("sign",), ("tell",), ("throw",), ("show",), ("read",), ("done",),
)

# Words that one may stand for another of, as they take and put as many values.
LIKE = (("int", "truth", "text", "nil", "load", "new", "read"), ("add", "sub", "mul", "div", "rem", "less", "same", "at", "sign"),
        ("drop", "store", "show"), ("not", "get", "size", "tell", "is", "as", "row"))


class Made(Compiling):
    def test_programs(self):
        for at, program in enumerate(made_programs(1000, 40)):
            with self.subTest(at=at):
                self.assertEqual(read_program(write_program(program)), program)
                module = compiled(program)
                self.assertEqual(read_module(write_module(module)), module)
                self.agrees(program, (0, 1, 2, 5, 20, 300), tuple(range(-1, at % 5)), 11)

    def spoiled(self, chance, module):
        """A few of its instructions are exchanged for others, of its own or not."""
        classes, functions, main = module
        functions = list(functions)
        for _ in range(chance.randrange(1, 3)):
            index = chance.randrange(len(functions))
            function = list(functions[index])
            code = list(function[4])
            place = chance.randrange(len(code))
            others = [each for each in LIKE if code[place][0] in each] or [SPOILERS]
            word = others[0][chance.randrange(len(others[0]))]
            if chance.randrange(4) == 0:
                code[place] = SPOILERS[chance.randrange(len(SPOILERS))]
            elif isinstance(word, tuple):
                code[place] = word
            else:
                # Of the function itself, one that leaves as much on the stack.
                own = [each for each in code if each[0] in others[0]]
                code[place] = own[chance.randrange(len(own))]
            function[4] = tuple(code)
            begin, end, to = sorted(chance.randrange(len(code)) for _ in range(3))
            if classes and len(function[5]) < 10 and chance.randrange(3) == 0:
                function[5] += ((begin, end, to, classes[chance.randrange(len(classes))][0]),)
            functions[index] = tuple(function)
        return (classes, tuple(functions), main)

    def test_modules(self):
        chance = random.Random(5)
        let = 0
        told = set()
        for program in made_programs(2000, 40):
            for _ in range(10):
                module = self.spoiled(chance, compiled(program))
                self.assertTrue(is_module(module))
                what = verify(module)
                if what is not None:
                    told.add(what[0])
                    continue
                let += 1
                tables = Tables(module)
                for bound in (0, 3, 50):
                    run_module(module, (1, 0, 2, -1), bound, tables)
        # Many are let by, and do well; of the others each look tells some.
        self.assertGreater(let, 60)
        self.assertLessEqual({"index", "short", "height", "kind", "unset"}, told)


class Places(unittest.TestCase):
    def test_each_place_that_is_come_to_has_kinds(self):
        for program in made_programs(3000, 10):
            module = compiled(program)
            for index in range(len(module[1])):
                kinds = stack_kinds(module, index)
                self.assertEqual([height is None for height in heights(module, index)], [kind is None for kind in kinds])
                self.assertEqual([found is None for found in set_locals(module, index)], [kind is None for kind in kinds])


if __name__ == "__main__":
    unittest.main()
