"""Many modules, schedules, sizes and strips, made at random: the machine does as the plain one (points 3, 56 to 62)."""

import random
import unittest

from movedrun.compiler import compiled
from movedrun.family import is_reference
from movedrun.judges import is_sound
from movedrun.machine import Machine, outlived, runs_alike
from movedrun.meaning import mean
from movedrun.strips import lift, strip_holds
from movedrun.verifier import verify
from tests.bending import REMAKINGS, bent_strip
from tests.generating import made_programs
from tests.heaprunning import heap_behind
from tests.spoiling import spoiled
from tests.test_compiler import Tables
from tests.test_lift import places_of

SCHEDULES = (
    (), (1,), (4,), (6,), (7,), (6, 8), (7, 8), (7, 9, 7), (6, 1, 2, 9), (7, 4, 8, 7, 0, 1), (0, 7, 1, 3, 5, 2, 6, 4, 9, 8))
SIZES = ((16, 16, 16, 2), (16, 0, 4, 1), (64, 32, 20, 3), (4096, 4096, 4096, 7), (32, 10, 8, 2))


def shapes_of(module):
    """By classes: which fields hold references, those of the classes above first."""
    above = {}
    for name, base, fields, _ in module[0]:
        above[name] = above.get(base, ()) + tuple(is_reference(kind) for _, kind in fields)
    return tuple(above[each[0]] for each in module[0])


class Tiers(unittest.TestCase):
    def modules(self, chance, first, many):
        """Made programs' modules, and what is let by of others that are bent."""
        for program in made_programs(first, many):
            module = compiled(program)
            yield program, module
            for _ in range(3):
                other = spoiled(chance, module)
                if verify(other) is None:
                    yield None, other

    def strips(self, chance, module):
        """Strips of some functions, with some asks guessed and some calls opened."""
        asks, calls = places_of(module, "ask"), places_of(module, "call", "ask")
        found = []
        for function in range(len(module[1])):
            guesses = tuple((*place, module[1][place[0]][4][place[1]][1]) for place in asks if chance.random() < 0.7)
            opened = tuple(place for place in calls if chance.random() < 0.7)
            strip = lift(module, function, guesses, opened)
            if strip is not None and len(found) < 10 and chance.random() < 0.7:
                found.append(strip)
        return tuple(found)

    def test_runs_alike(self):
        chance = random.Random(3)
        outs = ups = 0
        for program, module in self.modules(chance, 1000, 5):
            given = tuple(chance.randrange(-3, 9) for _ in range(chance.randrange(6)))
            strips = self.strips(chance, module) if chance.random() < 0.6 else ()
            for schedule in SCHEDULES + (tuple(chance.randrange(10) for _ in range(20)),):
                sizes = chance.choice(SIZES)
                for bound in (5, 50):
                    self.assertIsNone(runs_alike(module, given, bound, sizes, schedule, strips))
                self.assertEqual(outlived(module, given, chance.randrange(15), sizes, schedule, strips), 0)
                machine = self.sound(module, given, sizes, schedule, strips)
                outs += machine.went_out()
                ups += machine.went_up()
                if program is not None:
                    self.assertEqual(machine.run(400), mean(program, given, 400))
        self.assertGreater(min(outs, ups), 50)

    def sound(self, module, given, sizes, schedule, strips):
        machine = Machine(module, given, sizes, schedule)
        for strip in strips:
            machine.hold(strip)
        for bound in (0, 1, 7, 90):
            machine.run(bound)
            picture = machine.heap()
            self.assertTrue(is_sound(shapes_of(module), sizes, picture, ()))
            things = 0 if machine.graph() is None else len(machine.graph()[1])
            self.assertGreaterEqual(machine.unreached(), 0)
            self.assertGreaterEqual(machine.unreached() + things, len(picture[5]))
        return machine

    def test_pictures_of_the_heap(self):
        """By code alone each picture is that of a second machine, on a second heap: roots, makes and deeds in their sequence."""
        chance = random.Random(5)
        ends = 0
        for _, module in self.modules(chance, 14000, 12):
            tables = Tables(module)
            given = tuple(chance.randrange(-3, 9) for _ in range(chance.randrange(6)))
            for schedule in ((), (1,), (0, 2), (4, 1), (3, 5, 0), tuple(chance.randrange(6) for _ in range(20))):
                sizes = chance.choice(SIZES)
                machine = Machine(module, given, sizes, schedule)
                for bound in (0, 3, 40):
                    outcome, picture, collected = heap_behind(module, given, bound, tables, sizes, schedule)
                    self.assertEqual(machine.run(bound), outcome)
                    self.assertEqual((machine.heap(), machine.collected()), (picture, collected))
                ends += sum(machine.collected())
        self.assertGreater(ends, 500)

    def test_what_is_made_of_right_strips_is_right(self):
        chance = random.Random(8)
        made = 0
        for _, module in self.modules(chance, 15000, 4):
            for strip in self.strips(chance, module)[:3]:
                if len(strip[2]) > 300:
                    continue
                for remake in REMAKINGS:
                    strip = remake(chance, strip)
                    self.assertTrue(strip_holds(module, strip), remake)
                    made += 1
                for schedule in ((), (0, 8), (1, 0, 9, 7)):
                    self.assertIsNone(runs_alike(module, (1, 5, 0), 60, chance.choice(SIZES), schedule, (strip,)))
        self.assertGreater(made, 50)

    def test_bent_strips_that_hold_run_alike(self):
        chance = random.Random(4)
        held = bent = 0
        for _, module in self.modules(chance, 13000, 4):
            classes = [each[0] for each in module[0]]
            for strip in self.strips(chance, module)[:3]:
                if len(strip[2]) > 200:
                    continue
                for _ in range(12):
                    other = bent_strip(chance, strip, classes)
                    bent += 1
                    if not strip_holds(module, other):
                        continue
                    held += 1
                    for schedule in ((), (8, 0, 4), (0, 9, 1)):
                        self.assertIsNone(runs_alike(module, (1, 5, 0), 80, chance.choice(SIZES), schedule, (other,)))
        self.assertGreater(held, 30)
        self.assertGreater(bent - held, 30)


if __name__ == "__main__":
    unittest.main()
