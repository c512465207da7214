"""Many programs and modules: what a program means is what its code does, and what is let by does what its kinds let."""

import random
import unittest

from movedrun.compiler import compiled
from movedrun.modules import is_module, read_module, write_module
from movedrun.programs import read_program, write_program
from movedrun.verifier import heights, set_locals, stack_kinds, verify
from tests.generating import made_programs
from tests.running import run_module
from tests.spoiling import spoiled
from tests.test_compiler import Compiling, Tables


class Made(Compiling):
    def test_programs(self):
        for at, program in enumerate(made_programs(1000, 40)):
            with self.subTest(at=at):
                self.assertEqual(read_program(write_program(program)), program)
                module = compiled(program)
                self.assertEqual(read_module(write_module(module)), module)
                self.agrees(program, (0, 1, 2, 5, 20, 300), tuple(range(-1, at % 5)), 11)

    def test_modules(self):
        chance = random.Random(5)
        let = 0
        told = set()
        for program in made_programs(2000, 40):
            for _ in range(10):
                module = spoiled(chance, compiled(program))
                self.assertTrue(is_module(module))
                what = verify(module)
                if what is not None:
                    told.add(what[0])
                    continue
                let += 1
                tables = Tables(module)
                for bound in (0, 3, 50):
                    run_module(module, (1, 0, 2, -1), bound, tables)
        # Many are let by, and do well; of the others each look tells some.
        self.assertGreater(let, 60)
        self.assertLessEqual({"index", "short", "height", "kind", "unset"}, told)


class Places(unittest.TestCase):
    def test_each_place_that_is_come_to_has_kinds(self):
        for program in made_programs(3000, 10):
            module = compiled(program)
            for index in range(len(module[1])):
                kinds = stack_kinds(module, index)
                self.assertEqual([height is None for height in heights(module, index)], [kind is None for kind in kinds])
                self.assertEqual([found is None for found in set_locals(module, index)], [kind is None for kind in kinds])


if __name__ == "__main__":
    unittest.main()
