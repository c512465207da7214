"""The machine in strips, thing by thing: each instruction and fault, deeds that are counted, depth, and what goes up and out."""

import unittest
from unittest import mock

from movedrun import machine as machine_file
from movedrun.compiler import compiled
from movedrun.machine import Machine, outlived, runs_alike
from movedrun.plain import frames_at, plain_run, run_plain
from movedrun.programs import read_program
from movedrun.strips import lift, strip_holds
from movedrun.verifier import verified, verify
from tests.codes import DOINGS, FAULTS
from tests.modulebuilding import OTHERS, TREE, function_of, module_of, read_code, tree_module, with_code

WIDE = (4096, 4096, 4096, 7)


def opened_of(module, *words):
    return tuple((index, place) for index, function in enumerate(module[1])
                 for place, each in enumerate(function[4]) if each[0] in words)


class Deeds(unittest.TestCase):
    def machine(self, module, schedule=(), given=(), sizes=WIDE, strips=()):
        machine = Machine(module, given, sizes, schedule)
        for strip in strips:
            machine.hold(strip)
        return machine

    def strips(self, module):
        """Of all functions: plain ones, and those with all calls opened."""
        plain = tuple(lift(module, index, (), ()) for index in range(len(module[1])))
        opened = tuple(lift(module, index, (), opened_of(module, "call", "ask")) for index in range(len(module[1])))
        return (), plain, tuple(strip for strip in opened if strip is not None)

    def counts_alike(self, module, given=(), bound=20):
        """As many deeds come in strips as in code, at each bound: a minor collection at each anchor is counted."""
        plain = self.machine(module, (1,), given)
        held = [self.machine(module, (1,), given, strips=strips[:10]) for strips in self.strips(module)]
        # Going out and coming up again takes no deed of its own.
        turns = [self.machine(module, (1, 8), given, strips=strips[:10]) for strips in self.strips(module)]
        for beats in range(bound + 1):
            outcome = plain.run(beats)
            for machine in held + turns:
                self.assertEqual(machine.run(beats), outcome)
                self.assertEqual(machine.graph(), plain.graph())
            for machine in held:
                self.assertEqual(machine.collected(), plain.collected())
            for machine in turns:
                self.assertEqual(machine.collected()[0], (plain.collected()[0] + 1) // 2)
        return held[1]

    def test_each_instruction(self):
        for text, values in DOINGS:
            with self.subTest(code=text):
                machine = self.counts_alike(tree_module(text), (8, -9))
                self.assertEqual(machine.run(20), ("end", "", values))
                self.assertEqual((machine.went_out(), machine.went_up() > 0), (0, True))

    def test_each_fault(self):
        for text, word in FAULTS:
            with self.subTest(code=text):
                machine = self.counts_alike(tree_module("int 5 ; show ; " + text), (8,))
                self.assertEqual(machine.run(20), ("fault", (word, "main"), (5,)))
                # The slow machine does it.
                self.assertEqual(machine.went_out(), 1)

    def test_sizes(self):
        longest = "text " + "x" * 40 + " ; twin ; add ; twin ; add ; text " + "y" * 40 + " ; add ; "
        for text, outs in (("int 0 ; row int ; size ; show ; done", 0), ("int 1000 ; row text ; size ; show ; done", 0), ("int 1001 ; row int ; drop ; done", 1),
                           ("int -1 ; row int ; drop ; done", 1), (longest + "size ; show ; done", 0), (longest + "text z ; add ; drop ; done", 1),
                           (longest + "text ; add ; show ; done", 0), ("text ; text ; add ; show ; done", 0), ("int 0 ; row A ; drop ; text ; size ; show ; done", 0),
                           ("text a ; nil ; add ; drop ; done", 1), ("nil ; text a ; add ; drop ; done", 1), ("nil ; nil ; add ; drop ; done", 1)):
            module = tree_module(text)
            machine = self.counts_alike(module)
            self.assertEqual(machine.run(20), run_plain(module, (), 20))
            self.assertEqual(machine.went_out(), outs, text)

    def test_loops_by_ifs(self):
        for text in ("read ; show ; read ; int 0 ; less ; if 0 ; done", "int 1 ; tell ; drop ; read ; int 0 ; less ; not ; if 3 ; read ; show ; jump 0"):
            self.counts_alike(tree_module(text), (1, -1, 2, -2, -3, -4, 3, -5, 4, 5, 6), 8)

    def test_calls_and_asks(self):
        text = "new B ; store 0 ; load 0 ; int 1 ; ask A m ; drop ; text a ; drop ; call 6 ; load 0 ; new B ; ask A k ; nil ; as A ; store 1 ; jump 2"
        machine = self.counts_alike(tree_module(text, own=(("of", "A"), ("of", "A"))), bound=25)
        self.assertEqual(machine.went_out(), 0)
        self.counts_alike(tree_module("call 6 ; call 0 ; done"), bound=10)

    def test_opened_frames_are_left_again(self):
        """Each time round is one frame deeper and then not."""
        module = module_of(function_of(name="main", code=read_code("call 1 ; jump 0")), function_of(name="f", code=read_code("call 2 ; text a ; drop ; done")),
                           function_of(name="g"))
        strip = lift(module, 0, (), opened_of(module, "call"))
        machine = self.machine(module, strips=(strip,))
        self.assertEqual(machine.run(3000), ("spent", "", ()))
        self.assertEqual((machine.went_up(), machine.went_out()), (1, 0))
        self.assertEqual(machine.graph(), frames_at(module, (), 3000))
        # Out in the midst of opened frames, and up again as main jumps back.
        for schedule in ((0, 0, 8), (0, 8, 0, 0), (8,), (0, 9, 0, 7)):
            machine = self.machine(module, schedule, strips=(strip,))
            self.assertEqual(machine.run(3000), ("spent", "", ()))
            self.assertGreater(machine.went_out(), 300)
            self.assertEqual(machine.graph(), frames_at(module, (), 3000))

    def test_the_depth_of_frames_that_were_opened(self):
        """f and g call one another; of the two hundred frames some are opened, some laid as slow ones."""
        module = module_of(function_of(name="main", code=read_code("call 1 ; done")), function_of(name="f", code=read_code("call 2 ; done")),
                           function_of(name="g", code=read_code("call 1 ; done")))
        opened = opened_of(module, "call")
        for held in ((), (0,), (1,), (2,), (0, 1, 2)):
            strips = tuple(lift(module, index, (), opened) for index in held)
            for schedule in ((), (8,), (0, 0, 8), (0, 9), (7, 0, 0), (6, 8)):
                self.assertIsNone(runs_alike(module, (), 400, WIDE, schedule, strips))
                machine = self.machine(module, schedule, strips=strips)
                self.assertEqual(machine.run(198), ("spent", "", ()))
                self.assertEqual(len(machine.graph()[0]), 199)
                self.assertEqual(machine.run(400), run_plain(module, (), 400))
                self.assertEqual(machine.beats(), 200)

    def test_the_depth_behind_frames_that_were_opened_and_left(self):
        module = module_of(function_of(name="main", code=read_code("call 1 ; call 1 ; call 1 ; call 2 ; done")), function_of(name="f"),
                           function_of(name="g", code=read_code("call 3 ; call 2 ; done")), function_of(name="h", code=read_code("text a ; drop ; done")))
        opened = tuple(place for place in opened_of(module, "call") if place not in ((0, 3), (2, 1)))
        strips = tuple(lift(module, index, (), opened) for index in (0, 2))
        for schedule in ((), (8, 0), (0, 0, 0, 9, 6), (0, 7)):
            machine = self.machine(module, schedule, strips=strips)
            for bound in (3, 50, 400, 401, 402, 403, 404, 1000):
                self.assertEqual(machine.run(bound), run_plain(module, (), bound), (schedule, bound))
            self.assertEqual(run_plain(module, (), 1000), ("fault", ("deep", "g"), ()))

    def test_nil_in_a_strip_that_waits(self):
        """What is nil all the time stands in no register, and what is called collects."""
        module = module_of(
            function_of(name="main", own=("text", ("of", "A")), code=read_code("nil ; store 0 ; new A ; store 1 ; nil ; nil ; load 1 ; call 1 ; drop ; drop ; drop ; load 0 ; size ; show ; done")),
            function_of(name="f", code=read_code("new A ; drop ; text a ; drop ; done")), classes=(("A", None, (), ()),))
        self.assertEqual(verify(module), None)
        for strips in self.strips(module):
            for schedule in ((1,), (4,), (0, 5), (9, 1)):
                self.assertIsNone(runs_alike(module, (), 5, (16, 8, 4, 2), schedule, strips))
                self.assertEqual(outlived(module, (), 5, (16, 8, 4, 2), schedule, strips), 0)

    def test_deed_nine_lays_all_frames(self):
        module = module_of(*[function_of(name=f"f{index}", code=read_code(f"call {index + 1} ; done" if index < 4 else "jump 0")) for index in range(5)])
        strips = tuple(lift(module, index, (), ()) for index in range(5))
        machine = self.machine(module, (0,) * 4 + (9,), strips=strips)
        machine.run(4)
        self.assertEqual((machine.went_up(), machine.went_out(), len(machine.tiers())), (5, 0, 5))
        graph = machine.graph()
        machine.run(5)
        self.assertEqual((machine.went_up(), machine.went_out(), machine.tiers()), (5, 5, ()))
        self.assertEqual(machine.graph(), graph)

    def test_a_slice_of_seven(self):
        text = "int 12 ; row A ; store 0 ; " + " ".join(f"load 0 ; int {at} ; new A ; set ;" for at in range(12)) + " jump 51"
        module = tree_module(text, own=(("row", ("of", "A")),))
        self.assertEqual(verify(module), None)
        for deed, black in ((2, 1), (3, 7)):
            machine = self.machine(module, (0,) * 13 + (deed,))
            machine.run(1)
            picture = machine.heap()
            self.assertTrue(picture[6])
            # The row leaves the grey row first, and its twelve objects come into it.
            self.assertEqual(len(picture[5]), 1 + 12 - black)

    def test_a_jump_ahead_does_not_go_up(self):
        module = module_of(function_of(name="main", code=read_code("call 1 ; jump 2 ; jump 2")), function_of(name="f"))
        machine = self.machine(module)
        machine.run(0)
        machine.hold(lift(module, 0, (), ()))
        machine.run(1)
        self.assertEqual((machine.went_up(), machine.graph()), (0, (((0, 2, (), ()),), ())))
        machine.run(2)
        self.assertEqual(machine.went_up(), 1)

    def test_a_jump_goes_up_where_there_is_an_entry(self):
        module = with_code(*read_code("read ; int 0 ; less ; if 6 ; text a ; drop ; jump 0"))
        machine = self.machine(module, (), (1, -1) * 9)
        machine.run(0)
        other = lift(module, 0, (), ())
        self.assertEqual([place for place, _ in other[1]], [0])
        machine.hold(other)
        machine.run(1)
        self.assertEqual(machine.went_up(), 1)

    def test_an_ask_that_began_nothing_is_not_opened(self):
        """Of what class its receiver is, is told by new; but it was not asked yet."""
        module = tree_module("text a ; drop ; new B ; int 1 ; ask A m ; drop ; call 6 ; jump 0")
        machine = self.machine(module, (7,) + (0,) * 50)
        machine.run(0)
        once = lift(module, 0, (), opened_of(module, "call"))
        self.assertNotEqual(len(once[2]), len(lift(module, 0, (), opened_of(module, "call", "ask"))[2]))
        self.assertEqual(machine.tiers(), ((0, len(once[2])),))

    def test_what_an_entered_ask_began_is_guessed(self):
        """main's strip enters h and, by the fact of new, the ask in it; the slow h of k then is lifted with that guess."""
        h = ("h", (("of", "A"),), None, (), read_code("text a ; drop ; load 0 ; int 1 ; ask A m ; drop ; done"), ())
        k = ("k", (), None, (), read_code("new A ; call 8 ; done"), ())
        main = ("main", (), None, (("of", "D"),), read_code("new D ; store 0 ; new B ; call 8 ; call 9 ; jump 2"), ())
        module = (TREE, (main, *OTHERS, h, k), 0)
        self.assertEqual(verify(module), None)
        strip = lift(module, 0, (), ((0, 3), (8, 4)))
        self.assertEqual([row[2][0] for row in strip[2]].count("enter"), 2)
        # The anchors: two new, the call of h, its text, the ask; the call of k, its new and its call of h, and the text there.
        machine = self.machine(module, (0,) * 8 + (7,), strips=(strip,))
        machine.run(4)
        machine.run(5)
        guessed = lift(module, 8, ((8, 4, "B"),), tuple(sorted(opened_of(module, "call") + ((8, 4),))))
        unguessed = lift(module, 8, (), opened_of(module, "call"))
        self.assertNotEqual(len(guessed[2]), len(unguessed[2]))
        self.assertEqual(machine.tiers(), ((0, len(strip[2])), (8, len(guessed[2]))))

    def test_what_was_handed_in_is_no_root_of_the_strip_that_waits(self):
        module = module_of(
            function_of(name="main", code=read_code("new A ; new A ; call 1 ; drop ; done")),
            function_of(name="f", params=(("of", "A"),), code=read_code("nil ; store 0 ; jump 2")), classes=(("A", None, (), ()),))
        for strips in self.strips(module):
            self.assertEqual(outlived(module, (), 5, WIDE, (), strips), 0)
            machine = self.machine(module, strips=strips[:1])
            machine.run(3)
            self.assertEqual(machine.unreached(), 1)
            machine.whole()
            self.assertEqual((machine.unreached(), len(machine.graph()[1])), (0, 1))

    def test_a_guard_that_misses_takes_no_deed(self):
        text = "read ; int 0 ; less ; if 7 ; new B ; store 0 ; jump 9 ; new C ; store 0 ; load 0 ; int 5 ; ask A m ; show ; jump 0"
        module = tree_module(text, own=(("of", "A"),))
        self.assertEqual(verify(module), None)
        given = (1, -1, 1, -1, -1, -1, 1)
        guessed = ((0, 11, "B"),)
        for opened in ((), ((0, 11),)):
            strip = lift(module, 0, guessed, opened)
            self.assertTrue(strip_holds(module, strip))
            plain = self.machine(module, (1,), given)
            machine = self.machine(module, (1,), given, strips=(strip,))
            for beats in range(16):
                self.assertEqual(machine.run(beats), plain.run(beats))
                self.assertEqual((machine.collected(), machine.graph()), (plain.collected(), plain.graph()))
            # Four guards were missed, and at last nothing was left to be read.
            self.assertEqual(machine.went_out(), 5)
            self.assertEqual(machine.went_up(), 5)


class Judges(unittest.TestCase):
    """runs_alike and outlived tell what they find, if only something is found."""

    def test_runs_alike_tells_another_graph_or_outcome(self):
        other = verified(compiled(read_program("def main ( ) { var int i = 7 ; while true { i = ( i + 1 ) ; } }")))
        module = compiled(read_program("def main ( ) { var int i = 0 ; while true { i = ( i + 1 ) ; } }"))
        with mock.patch.object(machine_file, "plain_run", lambda known, given: plain_run(other, given)):
            found = runs_alike(module, (), 5, WIDE, (), ())
            self.assertEqual(found[0], 0)
            self.assertIsInstance(found[1], str)
        shows = verified(compiled(read_program("def main ( ) { show 2 ; }")))
        module = compiled(read_program("def main ( ) { show 1 ; }"))
        with mock.patch.object(machine_file, "plain_run", lambda known, given: plain_run(shows, given)):
            self.assertIsInstance(runs_alike(module, (), 5, WIDE, (), ()), tuple)
        self.assertIsNone(runs_alike(module, (), 5, WIDE, (), ()))

    def test_the_beats_that_are_looked_at(self):
        module = with_code(("jump", 0))
        for bound, beats in ((0, [0]), (5, list(range(6))), (99, list(range(100)))):
            self.assertEqual(self.looked_at(module, bound), beats)
        for bound in (100, 1000, 10 ** 6):
            beats = self.looked_at(module, bound)
            self.assertEqual((len(beats), beats[0], beats[-1]), (100, 0, bound))
            steps = [other - one for one, other in zip(beats, beats[1:])]
            self.assertLessEqual(max(steps) - min(steps), 1)

    def looked_at(self, module, bound):
        beats = []
        with mock.patch.object(machine_file.Machine, "whole", lambda machine: beats.append(machine.beats())):
            outlived(module, (), bound, WIDE, (), ())
        return beats[::2]

    def test_outlived_tells_what_is_left(self):
        module = tree_module("new A ; drop ; jump 0")
        self.assertEqual(outlived(module, (), 5, WIDE, (), ()), 0)
        with mock.patch.object(machine_file.Machine, "whole", lambda machine: None):
            self.assertEqual(outlived(module, (), 5, WIDE, (), ()), 6)


if __name__ == "__main__":
    unittest.main()
