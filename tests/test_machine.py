"""The machine: what it tells, its deeds by hand and by schedule, its tiers (points 34, 35 and 41 to 45)."""

import unittest

from movedrun.compiler import compiled
from movedrun.errors import (
    BadCount, BadGiven, BadIndex, BadModule, BadSchedule, BadSizes, BadStrip, NotVerified
)
from movedrun.heaps import Heap
from movedrun.judges import is_sound
from movedrun.machine import Machine, outlived, runs_alike
from movedrun.plain import frames_at, run_plain
from movedrun.programs import read_program
from movedrun.strips import lift
from tests.building import EXAMPLE
from tests.modulebuilding import function_of, module_of, read_code, tree_module, with_code

SIZES = (64, 32, 20, 3)
LOOP = with_code(("jump", 0))
# Each time round an object is made and lost, and one is called for.
ROUND = tree_module("new A ; store 0 ; call 6 ; jump 0", own=(("of", "A"),))


class Machining(unittest.TestCase):
    def refused(self, error, deed, *told, **named):
        with self.assertRaises(error) as caught:
            deed(*told, **named)
        self.assertIs(type(caught.exception), error)

    def machine(self, module, schedule=(), given=(), sizes=SIZES, strips=()):
        machine = Machine(module, given, sizes, schedule)
        for strip in strips:
            self.assertIsNone(machine.hold(strip))
        return machine

    def alike(self, module, schedule=(), given=(), bound=60, sizes=SIZES, strips=()):
        """The machine does as the plain one at all bounds; returns it as it is behind the last one."""
        self.assertIsNone(runs_alike(module, given, bound, sizes, schedule, strips))
        self.assertEqual(outlived(module, given, min(bound, 20), sizes, schedule, strips), 0)
        machine = self.machine(module, schedule, given, sizes, strips)
        self.assertEqual(machine.run(bound), run_plain(module, given, bound))
        return machine


class Refusing(Machining):
    def test_what_it_is_made_of(self):
        good = (LOOP, (), SIZES, ())
        for module in (None, True, (), [], ((), (), 0, 0)):
            self.refused(BadModule, Machine, module, None, None, None)
        self.refused(NotVerified, Machine, with_code(("add",), ("done",)), None, None, None)
        for given in (None, [], (True,), (2 ** 31,), (0,) * 1001, 5):
            self.refused(BadGiven, Machine, LOOP, given, None, None)
        for sizes in (None, [], (20, 10, 8), (15, 10, 8, 3), (20, 10, 8, True), (20, 10, 21, 3), (20, 4097, 8, 3)):
            self.refused(BadSizes, Machine, LOOP, (), sizes, None)
        for schedule in (None, [], 0, True, "", (10,), (-1,), (True,), (None,), ("1",), ((),), (0,) * 201):
            self.refused(BadSchedule, Machine, LOOP, (), SIZES, schedule)
        self.assertEqual(Machine(*good).run(3), ("spent", "", ()))
        self.assertEqual(Machine(module=LOOP, given=(), sizes=SIZES, schedule=(0,) * 200).run(bound=3), ("spent", "", ()))

    def test_bounds(self):
        machine = self.machine(LOOP)
        for bound in (None, True, -1, 10 ** 6 + 1, "1", (1,)):
            self.refused(BadCount, machine.run, bound)
        machine.run(5)
        for bound in (4, 0, False):
            self.refused(BadCount, machine.run, bound)
        self.assertEqual(machine.run(5), ("spent", "", ()))
        self.assertEqual(machine.beats(), 5)

    def test_deeds(self):
        machine = self.machine(LOOP)
        for strip in (None, (), 0, [], (0, ((0, 0),), ())):
            self.refused(BadStrip, machine.hold, strip)
        for function in (None, True, False, -1, 1, "0"):
            self.refused(BadIndex, machine.forget, function)
        for count in (None, True, -1, 10 ** 6 + 1):
            self.refused(BadCount, machine.slice, count)
        self.assertIsNone(machine.forget(function=0))
        self.assertIsNone(machine.slice(count=10 ** 6))
        self.assertIsNone(machine.hold(strip=lift(LOOP, 0, (), ())))

    def test_runs_alike_and_outlived(self):
        strip = lift(LOOP, 0, (), ())
        for deed in (runs_alike, outlived):
            self.refused(BadModule, deed, None, None, None, None, None, None)
            self.refused(NotVerified, deed, with_code(("add",), ("done",)), None, None, None, None, None)
            self.refused(BadGiven, deed, LOOP, [], None, None, None, None)
            for bound in (None, True, -1, 10 ** 6 + 1):
                self.refused(BadCount, deed, LOOP, (), bound, None, None, None)
            self.refused(BadSizes, deed, LOOP, (), 5, (1, 2), None, None)
            self.refused(BadSchedule, deed, LOOP, (), 5, SIZES, (10,), None)
            for strips in (None, [], [strip], (None,), (strip, 0), (strip,) * 11, strip):
                self.refused(BadStrip, deed, LOOP, (), 5, SIZES, (), strips)
            named = {"module": LOOP, "given": (), "bound": 5, "sizes": SIZES, "schedule": (8,), "strips": (strip,) * 10}
            self.assertEqual(deed(**named), None if deed is runs_alike else 0)


class Telling(Machining):
    def test_bounds_that_rise(self):
        module = compiled(EXAMPLE)
        machine = self.machine(module)
        for bound in range(6):
            self.assertEqual(machine.run(bound), ("spent", "", ()))
            self.assertEqual(machine.beats(), bound)
            self.assertEqual(machine.graph(), frames_at(module, (), bound))
        self.assertEqual(machine.run(1000), ("end", "", (13,)))
        self.assertEqual((machine.beats(), machine.graph()), (6, None))
        self.assertEqual(machine.run(6), ("end", "", (13,)))
        self.refused(BadCount, machine.run, 5)

    def test_ahead_of_the_first_run(self):
        module = tree_module("new A ; store 0 ; done", own=(("of", "A"), "int"))
        machine = self.machine(module)
        self.assertEqual(machine.graph(), (((0, 0, ("unset", "unset"), ()),), ()))
        self.assertEqual((machine.beats(), machine.unreached(), machine.collected(), machine.tiers()), (0, 0, (0, 0, 0), ()))
        self.assertEqual((machine.went_out(), machine.went_up()), (0, 0))
        self.assertEqual(machine.heap(), ((), 0, (), (), (), (), False))
        for deed in (machine.minor, machine.settle, machine.whole, machine.out):
            self.assertIsNone(deed())
        self.assertEqual(machine.collected(), (1, 1, 1))
        self.assertEqual(machine.run(0), ("end", "", ()))

    def test_behind_the_end_nothing_is_reached(self):
        machine = self.machine(tree_module("new A ; store 0 ; text ab ; show ; nil ; throw", own=(("of", "A"),)))
        self.assertEqual(machine.run(0), ("fault", ("nil", "main"), ("ab",)))
        self.assertEqual((machine.graph(), machine.unreached()), (None, 2))
        other = machine.copy()
        machine.whole()
        self.assertEqual((machine.unreached(), machine.heap()[3]), (0, ()))
        self.assertEqual(machine.run(10 ** 6), ("fault", ("nil", "main"), ("ab",)))
        self.assertEqual((other.graph(), other.unreached(), other.run(0)), (None, 2, ("fault", ("nil", "main"), ("ab",))))
        for deed in (other.minor, other.settle, other.out, other.whole, lambda: other.slice(0), lambda: other.forget(0)):
            self.assertIsNone(deed())
        self.assertEqual((other.collected(), other.went_up(), other.went_out()), ((1, 1, 2), 0, 0))
        strip = lift(tree_module("done"), 0, (), ())
        self.refused(BadStrip, other.hold, strip)

    def test_what_lies_on_the_heap(self):
        text = ("new A ; store 0 ; new B ; store 1 ; load 0 ; int 7 ; put A n ; load 1 ; load 1 ; put A next ; load 1 ; load 1 ; put B b ; "
                "text a~ ; store 2 ; int 2 ; row truth ; store 3 ; load 3 ; int 1 ; truth true ; set ; int 1 ; row A ; store 4 ; "
                "load 4 ; int 0 ; load 1 ; set ; jump 29")
        own = (("of", "A"), ("of", "B"), "text", ("row", "truth"), ("row", ("of", "A")))
        machine = self.machine(tree_module(text, own))
        machine.run(0)
        # Of the five classes A is the first and B the second; a row of truths is one of words, 1 and 0.
        self.assertEqual(machine.heap(), ((
            192, 4, 7, 0, 0, 0, 256, 5, 0, 7, 0, 0, 7, 0, 2, 97, 126, 128, 2, 0, 1, 64, 1, 7), 0, (), (), (), (), False))
        self.assertEqual(machine.graph()[1], (
            ("of", "A", (7, None, None, None)), ("of", "B", (0, ("thing", 1), None, None, ("thing", 1))),
            ("text", "a~"), ("row", "truth", (False, True)), ("row", ("of", "A"), (("thing", 1),))))
        shapes = ((False, True, True, True), (False, True, True, True, True), (False, True, True, True), (False, True, True, True, True), ())
        self.assertTrue(is_sound(shapes, SIZES, machine.heap(), (1, 7, 14, 18, 22)))

    def test_collected(self):
        machine = self.machine(ROUND)
        machine.run(4)
        self.assertEqual(machine.collected(), (0, 0, 0))
        self.assertEqual(machine.unreached(), 2)
        machine.minor()
        self.assertEqual((machine.collected(), machine.unreached()), ((1, 0, 0), 0))
        machine.settle()
        self.assertEqual(machine.collected(), (1, 1, 0))
        machine.slice(0)
        self.assertEqual(machine.collected(), (1, 1, 0))
        self.assertTrue(machine.heap()[6])
        machine.slice(10)
        self.assertEqual(machine.collected(), (1, 1, 1))
        machine.whole()
        self.assertEqual(machine.collected(), (1, 1, 2))
        # Ten objects of six words fit into a nursery of sixty-four: the next one collects first.
        machine.run(4 + 2 * 10)
        self.assertEqual(machine.collected(), (1, 1, 2))
        machine.run(4 + 2 * 11)
        self.assertEqual(machine.collected(), (2, 1, 2))

    def test_unreached(self):
        machine = self.machine(ROUND)
        for bound in range(0, 14, 2):
            machine.run(bound)
            self.assertEqual(machine.unreached(), bound // 2)
        machine.whole()
        machine.whole()
        self.assertEqual(machine.unreached(), 0)

    def test_copies_go_their_own_way(self):
        module = compiled(EXAMPLE)
        for schedule in ((), (7, 1, 0), (6, 9, 8)):
            machine = self.machine(module, schedule)
            machine.run(2)
            machine.slice(0)
            copy = machine.copy()
            self.assertIsInstance(copy, Machine)
            told = [(each.beats(), each.graph(), each.collected(), each.heap(), each.tiers(), each.went_out(), each.went_up(), each.unreached())
                    for each in (machine, copy)]
            self.assertEqual(told[0], told[1])
            self.assertEqual(copy.run(4), ("spent", "", ()))
            copy.whole()
            self.assertEqual((machine.beats(), machine.graph(), machine.collected(), machine.heap(), machine.tiers(), machine.went_out(), machine.went_up(),
                              machine.unreached()), told[0])
            self.assertEqual(machine.run(10), ("end", "", (13,)))
            self.assertEqual(copy.run(5), ("spent", "", ()))
            self.assertEqual(copy.graph(), frames_at(module, (), 5))
            self.assertEqual(copy.run(10), ("end", "", (13,)))
            self.assertEqual(copy.copy().run(6), ("end", "", (13,)))

    def test_a_copy_keeps_what_is_read_and_the_schedule_s_place(self):
        module = with_code(*read_code("read ; show ; jump 0"))
        machine = self.machine(module, (0, 0, 1), (1, 2, 3, 4))
        machine.run(2)
        copy = machine.copy()
        for each in (copy, machine):
            self.assertEqual(each.run(5), ("fault", ("dry", "f"), (1, 2, 3, 4)))
            self.assertEqual(each.collected(), (1, 0, 0))


class Schedules(Machining):
    def test_each_deed_at_each_anchor(self):
        """Ten anchors a time round, five of them ahead of the first beat, and none else."""
        text = ("new A ; drop ; int 1 ; row int ; drop ; text a ; int 5 ; tell ; add ; drop ; int 1 ; int 2 ; add ; drop ; call 6 ; new B ; int 1 ; ask A m ; drop ; "
                "truth false ; if 0 ; truth true ; if 24 ; done ; jump 26 ; done ; jump 0")
        module = tree_module(text)
        for deed, kind in ((1, 0), (5, 1), (4, 2)):
            machine = self.machine(module, (deed,))
            machine.run(3)
            self.assertEqual(machine.collected()[kind], 15, deed)
            machine.run(6)
            self.assertEqual(machine.collected()[kind], 25, deed)
        # A slice of seven ends what it begins, as so little is reached.
        machine = self.machine(module, (3,))
        machine.run(3)
        self.assertEqual(machine.collected(), (0, 0, 15))
        machine = self.machine(module, (0,))
        machine.run(30)
        self.assertGreater(machine.collected()[0], 1)
        self.assertEqual(machine.collected()[1:], (0, 0))

    def test_deeds_come_one_behind_the_other_and_again(self):
        machine = self.machine(LOOP, (1, 0, 5, 4, 1))
        found = []
        for bound in range(1, 12):
            machine.run(bound)
            found.append(machine.collected())
        self.assertEqual(found, [(1, 0, 0), (1, 0, 0), (1, 1, 0), (1, 1, 1), (2, 1, 1), (3, 1, 1), (3, 1, 1), (3, 2, 1), (3, 2, 2), (4, 2, 2), (5, 2, 2)])

    def test_a_run_that_is_spent_stands_ahead_of_the_deed(self):
        machine = self.machine(LOOP, (1,))
        machine.run(0)
        self.assertEqual(machine.collected(), (0, 0, 0))
        machine.run(0)
        machine.run(1)
        self.assertEqual(machine.collected(), (1, 0, 0))

    def test_a_deed_comes_ahead_of_a_fault_and_of_an_if_that_is_not_gone(self):
        for text, many in (("int -1 ; row int ; drop ; done", 1), ("nil ; as A ; int 1 ; ask A m ; drop ; done", 1), ("text a ; nil ; add ; drop ; done", 2),
                           ("truth false ; if 0 ; done", 1), ("truth true ; if 2 ; done", 0), ("jump 1 ; done", 0), ("nil ; nil ; add ; drop ; done", 1),
                           ("int 1 ; int 1 ; add ; drop ; done", 0), ("nil ; throw", 0)):
            machine = self.machine(tree_module(text), (1,))
            machine.run(0)
            self.assertEqual(machine.collected()[0], many, text)

    def test_two_hundred_deeds(self):
        schedule = tuple(index % 10 for index in range(200))
        module = compiled(read_program(
            "class A { int n ; A a ; def go ( int k ) : A { var A b = ( new A ) ; b . a = self ; b . n = ( ( self . n ) + k ) ; return b ; } } "
            "def main ( ) { var A a = ( new A ) ; var int i = 0 ; while ( i < 300 ) { a = ( a . go ( i ) ) ; if ( ( i rem 7 ) = 0 ) { a . a = nil ; } else { } i = ( i + 1 ) ; } show ( a . n ) ; }"))
        machine = self.alike(module, schedule, bound=1000)
        self.assertEqual(machine.run(10 ** 6), ("end", "", (44850,)))
        self.assertGreater(min(machine.collected() + (machine.went_up(), machine.went_out())), 5)


class Tiers(Machining):
    def test_deed_six(self):
        """main gets its strip at the jump, and goes on in it there."""
        machine = self.machine(LOOP, (6, 0, 0))
        machine.run(0)
        self.assertEqual((machine.tiers(), machine.went_up()), ((), 0))
        machine.run(1)
        self.assertEqual((machine.tiers(), machine.went_up(), machine.went_out()), (((0, len(lift(LOOP, 0, (), ())[2])),), 1, 0))
        # In a strip the function of the innermost frame is not slow.
        machine.run(50)
        self.assertEqual((machine.went_up(), machine.went_out()), (1, 0))

    def test_deed_eight_and_nine(self):
        for deed, tiers in ((8, 1), (9, 0)):
            machine = self.machine(LOOP, (6, deed, 0))
            machine.run(3)
            # Out at the second jump, but that jump goes up again at once where the strip is held.
            self.assertEqual((len(machine.tiers()), machine.went_up(), machine.went_out()), (tiers, 1 + tiers, 1))
            machine = self.machine(LOOP, (deed,))
            machine.run(3)
            self.assertEqual((machine.tiers(), machine.went_up(), machine.went_out()), ((), 0, 0))

    def test_main_begins_in_a_strip_that_is_held(self):
        for module in (LOOP, compiled(EXAMPLE)):
            strip = lift(module, module[2], (), ())
            machine = self.machine(module, strips=(strip,))
            self.assertEqual((machine.tiers(), machine.went_up()), (((module[2], len(strip[2])),), 0))
            machine.run(0)
            self.assertEqual(machine.went_up(), 1)
            self.alike(module, strips=(strip,))

    def test_calls_begin_in_strips(self):
        module = module_of(function_of(name="main", code=read_code("call 1 ; call 1 ; jump 0")), function_of(name="f"))
        machine = self.machine(module, strips=(lift(module, 1, (), ()),))
        machine.run(7)
        self.assertEqual((machine.went_up(), machine.went_out()), (5, 0))
        machine.forget(1)
        machine.run(70)
        self.assertEqual((machine.went_up(), machine.tiers()), (5, ()))

    def test_out_by_hand(self):
        strip = lift(LOOP, 0, (), ())
        machine = self.machine(LOOP, strips=(strip,))
        machine.out()
        self.assertEqual(machine.went_out(), 0)
        machine.run(3)
        graph = machine.graph()
        machine.out()
        self.assertEqual((machine.went_out(), machine.graph()), (1, graph))
        machine.out()
        self.assertEqual(machine.went_out(), 1)
        # As it jumps it goes up again.
        machine.run(4)
        self.assertEqual(machine.went_up(), 2)
        machine.forget(0)
        machine.run(5)
        machine.out()
        machine.run(6)
        self.assertEqual((machine.went_up(), machine.went_out()), (2, 2))
        self.assertEqual(machine.graph(), frames_at(LOOP, (), 6))

    def test_out_is_of_the_innermost_frame_alone(self):
        module = module_of(function_of(name="main", code=read_code("call 1 ; done")), function_of(name="f", code=read_code("jump 0")))
        machine = self.machine(module, strips=(lift(module, 0, (), ()),))
        machine.run(5)
        machine.out()
        self.assertEqual((machine.went_up(), machine.went_out()), (1, 0))

    def test_frames_that_are_in_a_strip_stay_in_it(self):
        module = with_code(*read_code("read ; show ; jump 0"))
        first = lift(module, 0, (), ())
        other = first[:2] + (first[2] + ((((0, 2, (), ()),), (), ("out",), None),),)
        machine = self.machine(module, (), (1, 2, 3, 4, 5), strips=(first,))
        machine.run(1)
        machine.hold(other)
        self.assertEqual(machine.tiers(), ((0, len(other[2])),))
        machine.run(2)
        machine.forget(0)
        machine.run(3)
        self.assertEqual((machine.went_up(), machine.went_out()), (1, 0))
        self.assertEqual(machine.run(9), ("fault", ("dry", "f"), (1, 2, 3, 4, 5)))
        # The fault is done by the slow machine.
        self.assertEqual(machine.went_out(), 1)

    def test_a_function_has_the_strip_that_was_told_last(self):
        strip = lift(LOOP, 0, (), ())
        more = strip[:2] + (strip[2] + (strip[2][-1],),)
        machine = self.machine(LOOP, strips=(strip, more))
        self.assertEqual(machine.tiers(), ((0, len(more[2])),))
        self.assertIsNone(runs_alike(LOOP, (), 20, SIZES, (8, 0), (strip, more, strip)))

    def test_tiers_ascend(self):
        module = module_of(*[function_of(name=f"f{index}", code=read_code(f"call {index + 1} ; jump 0" if index < 3 else "jump 0")) for index in range(4)])
        machine = self.machine(module, strips=[lift(module, index, (), ()) for index in (2, 0, 3)])
        self.assertEqual([index for index, _ in machine.tiers()], [0, 2, 3])

    def test_deed_seven_guesses_what_was_asked_last(self):
        """The ask of the loop is guessed of a B, then of an E, and opened: a C misses the guard."""
        text = ("read ; int 0 ; same ; if 17 ; read ; int 0 ; same ; if 13 ; new B ; store 0 ; jump 19 ; done ; done ; new C ; store 0 ; jump 19 ; done ; "
                "new E ; store 0 ; load 0 ; int 3 ; ask A m ; show ; jump 0")
        module = tree_module(text, own=(("of", "A"),))
        given = (1, 1) * 3 + (1, 0) + (1, 1) + (0,) * 3
        machine = self.alike(module, (0, 0, 7) + (0,) * 40, given, bound=100)
        # The first ask and the jump, or the like, and then the strip of main, in which the ask is opened.
        self.assertEqual([index for index, _ in machine.tiers()], [0])
        self.assertGreater(machine.went_up(), 0)
        self.assertGreater(machine.went_out(), 0)
        guessed = [place for place, instruction in enumerate(module[1][0][4]) if instruction[0] == "ask"][0]
        calls = tuple((index, place) for index, function in enumerate(module[1]) for place, instruction in enumerate(function[4])
                      if instruction[0] == "call" or (index, place) == (0, guessed))
        self.assertEqual(machine.tiers(), ((0, len(lift(module, 0, ((0, guessed, "B"),), calls)[2])),))

    def test_an_ask_that_began_nothing_is_not_guessed(self):
        """The second one is of nil."""
        module = tree_module("new B ; int 1 ; ask A m ; drop ; new A ; drop ; nil ; as A ; int 2 ; ask A m ; drop ; done")
        machine = self.machine(module, (0, 0, 7, 7, 7))
        machine.run(9)
        self.assertEqual(machine.tiers(), ((0, len(lift(module, 0, ((0, 2, "B"),), ((0, 2),))[2])),))

    def test_what_is_too_great_changes_nothing(self):
        f = function_of(name="f", code=read_code("read ; " * 100 + "drop ; " * 100 + "done"))
        main = function_of(name="main", code=read_code("read ; " * 110 + "call 1 ; " + "drop ; " * 110 + "jump 0"))
        module = module_of(main, f)
        given = (5,) * 1000
        machine = self.machine(module, (7,), given)
        machine.run(1)
        self.assertEqual([index for index, _ in machine.tiers()], [])
        machine = self.machine(module, (6, 7, 0), given)
        machine.run(2)
        self.assertEqual(machine.tiers(), ((0, len(lift(module, 0, (), ())[2])),))
        self.alike(module, (6, 7, 0), given, bound=6)


class Roots(Machining):
    def test_collections_as_something_is_made(self):
        """Texts that are added, rows and objects are made while the nursery is full, in every tier."""
        module = compiled(read_program(
            "class A { text t ; row text r ; A a ; } def cat ( text s , int k ) : text { return ( ( s + ( tell k ) ) + s ) ; } "
            "def main ( ) { var A a = nil ; var int i = 0 ; var text s = \"q\" ; while ( i < 60 ) { var A b = ( new A ) ; b . a = a ; a = b ; "
            "a . t = ( ( cat ( \"x\" , i ) ) + ( s + \"yz\" ) ) ; a . r = ( row text [ 3 ] ) ; ( a . r ) [ 1 ] = ( a . t ) ; ( a . r ) [ 2 ] = ( ( ( a . r ) [ 1 ] ) + s ) ; "
            "if ( ( i rem 9 ) = 8 ) { a = nil ; } else { } i = ( i + 1 ) ; } show s ; if ( a = nil ) { } else { show ( a . t ) ; show ( ( a . r ) [ 2 ] ) ; } }"))
        for schedule in ((), (7,), (6, 0, 8, 1), (1,), (4,), (0, 2), (7, 3, 9)):
            for sizes in ((16, 16, 16, 3), (16, 0, 4, 1), (32, 20, 12, 7), (4096, 4096, 4096, 7)):
                machine = self.alike(module, schedule, bound=200, sizes=sizes)
                if sizes[0] == 16 and schedule in ((), (7,)):
                    self.assertGreater(machine.collected()[0], 20)

    def test_mixed_values_and_what_is_set_no_more_are_no_roots(self):
        text = "truth true ; if 5 ; int 1 ; jump 8 ; jump 8 ; new A ; store 0 ; new B ; call 6 ; drop ; done"
        module = tree_module(text, own=(("of", "A"),))
        machine = self.machine(module)
        machine.run(0)
        self.assertEqual(machine.graph(), (((0, 8, ("unset",), ("mixed",)),), ()))
        self.assertEqual(machine.unreached(), 2)
        machine.whole()
        self.assertEqual(machine.unreached(), 0)
        for schedule in ((4,), (6, 4), (7, 4, 8)):
            self.alike(module, schedule, bound=10)
            self.alike(module, schedule, bound=10, strips=(lift(module, 0, (), ()),))

    def test_the_sequence_of_roots(self):
        """A minor collection moves what main holds first, then what it called holds; locals, then the stack."""
        main = function_of(name="main", own=("text", "text"), code=read_code("text cc ; text a ; store 1 ; text bb ; store 0 ; text dd ; call 1 ; drop ; drop ; done"))
        f = function_of(name="f", params=("text",), result="int", own=("text",), code=read_code("text e ; text ff ; store 1 ; jump 3"))
        module = module_of(main, f)
        for strips in ((), (lift(module, 0, (), ()),), (lift(module, 1, (), ()),)):
            machine = self.machine(module, strips=strips)
            machine.run(1)
            machine.settle()
            words = machine.heap()[3]
            signs = "".join(chr(word) for word in words if word > 64)
            if strips == () or strips[0][0] == 1:
                self.assertEqual(signs, "bbaccddffe")
            self.assertEqual(sorted(signs), sorted("bbaccddffe"))


class Frames(Machining):
    DEEP = ("class A { int n ; A a ; def go ( int k ) : int { if ( k < 1 ) { return ( self . n ) ; } else { return ( ( ( self . a ) . go ( ( k - 1 ) ) ) + 1 ) ; } } } "
            "class B above A { def go ( int k ) : int { if ( k < 1 ) { throw self ; } else { return ( ( ( self . a ) . go ( ( k - 1 ) ) ) * 2 ) ; } } } "
            "def down ( int k ) : int { if ( k < 1 ) { return 0 ; } else { return ( ( down ( ( k - 1 ) ) ) + 1 ) ; } } ")

    def test_the_two_hundredth_frame(self):
        for calls in (198, 199, 200):
            module = compiled(read_program(self.DEEP + f"def main ( ) {{ show ( down ( {calls} ) ) ; }}"))
            strips = tuple(lift(module, index, (), tuple((at, place) for at, function in enumerate(module[1]) for place, each in enumerate(function[4]) if each[0] == "call"))
                           for index in (0, 1))
            expected = ("end", "", (198,)) if calls == 198 else ("fault", ("deep", "down"), ())
            for schedule in ((), (6,), (7,), (8, 0), (9, 7)):
                for held in ((), strips):
                    machine = self.alike(module, schedule, bound=300, strips=held)
                    self.assertEqual(machine.run(300), expected)

    def test_faults_and_throws_within_opened_frames(self):
        fault = {
            "nil": "var A b = nil ; return ( b . n ) ;", "index": "var row int r = ( row int [ 2 ] ) ; return ( r [ k ] ) ;", "zero": "return ( k / ( k - k ) ) ;",
            "cast": "return ( ( ( a as A ) as B ) . n ) ;", "size": "return ( size ( row int [ ( k - 100 ) ] ) ) ;", "dry": "return ( read + ( read + read ) ) ;",
            "thrown": "throw a ;", "deep": "return ( inner ( a , k ) ) ;",
        }
        for word, body in fault.items():
            module = compiled(read_program(
                self.DEEP + "def inner ( A a , int k ) : int { " + body + " } def middle ( A a , int k ) : int { return ( ( inner ( a , k ) ) + 1 ) ; } "
                "def outer ( A a , int k ) : int { try { return ( middle ( a , k ) ) ; } catch B e { show ( e . n ) ; } return 5 ; } "
                "def main ( ) { var int i = 0 ; while ( i < 3 ) { var B b = ( new B ) ; b . n = i ; show ( outer ( ( new A ) , ( i + 6 ) ) ) ; i = ( i + 1 ) ; } }"))
            opened = tuple((at, place) for at, function in enumerate(module[1]) for place, each in enumerate(function[4]) if each[0] == "call")
            strips = tuple(lift(module, index, (), opened) for index in range(len(module[1])))
            for held in ((), strips):
                for schedule in ((), (7,), (0, 7, 4), (8, 9, 7, 1)):
                    machine = self.alike(module, schedule, (7,), bound=300, strips=held)
                    self.assertEqual(machine.run(300)[:2], ("fault", (word, "inner")), word)

    def test_throws_to_strips_that_wait(self):
        """What the opened frames, and those that wait, catch is told by the frames that their views stand for."""
        module = compiled(read_program(
            self.DEEP + "def hit ( A a , int k ) { if ( k < 1 ) { throw a ; } else { ( hit ( a , ( k - 1 ) ) ) ; } } "
            "def one ( A a , int k ) { try { ( hit ( a , k ) ) ; show 1 ; } catch B e { show 2 ; a . n = ( ( a . n ) + 1 ) ; } } "
            "def two ( A a , int k ) { try { ( one ( a , k ) ) ; show 3 ; } catch A e { show ( ( e = a ) and ( not ( e is B ) ) ) ; } } "
            "def main ( ) { var int i = 0 ; while ( i < 4 ) { ( two ( ( new A ) , i ) ) ; ( two ( ( new B ) , i ) ) ; i = ( i + 1 ) ; } }"))
        opened = tuple((at, place) for at, function in enumerate(module[1]) for place, each in enumerate(function[4]) if each[0] == "call")
        for strips in ((), tuple(lift(module, index, (), opened) for index in range(len(module[1]))), tuple(lift(module, index, (), ()) for index in range(len(module[1])))):
            for schedule in ((), (6,), (7,), (7, 1, 4), (7, 8, 0), (9, 6, 0, 5)):
                machine = self.alike(module, schedule, bound=200, strips=strips)
                self.assertEqual(machine.run(200)[2], (True, 2, 3) * 4)
                if strips:
                    self.assertGreater(machine.went_out(), 7)

    def test_each_deed_at_every_anchor(self):
        module = compiled(read_program(
            self.DEEP + "def main ( ) { var int i = 0 ; var A c = nil ; while ( i < 30 ) { var A d = nil ; if ( ( i rem 5 ) = 4 ) { d = ( new B ) ; } else { d = ( new A ) ; } "
            "d . a = c ; d . n = i ; c = d ; try { show ( c . go ( ( i / 2 ) ) ) ; } catch B e { show ( ( e . n ) - 100 ) ; } i = ( i + 1 ) ; } }"))
        asks = tuple((at, place, "A") for at, function in enumerate(module[1]) for place, each in enumerate(function[4]) if each[0] == "ask")
        opened = tuple(guess[:2] for guess in asks)
        strips = tuple(lift(module, index, asks, opened) for index in range(len(module[1])))
        self.assertNotIn(None, strips)
        for deed in range(10):
            for schedule in ((deed,), (7, deed), (deed, 6, 8)):
                for held in ((), strips):
                    self.alike(module, schedule, bound=160, strips=held, sizes=(16, 12, 8, 2))


if __name__ == "__main__":
    unittest.main()
