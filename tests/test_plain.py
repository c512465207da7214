"""Plain runs of modules (points 21 to 23)."""

import random
import unittest

from movedrun.compiler import compiled
from movedrun.errors import BadCount, BadGiven, BadModule, NotVerified
from movedrun.meaning import mean
from movedrun.plain import (
    calls_of, counts, frames_at, graph_size, made, reached_from_main, run_plain, same_graph
)
from movedrun.programs import read_program
from movedrun.verifier import verify
from tests.building import EXAMPLE
from tests.codes import DOINGS, FAULTS
from tests.generating import made_programs
from tests.modulebuilding import OTHERS, TREE, function_of, module_of, read_code, tree_module, with_code
from tests.running import graph_module, run_module
from tests.spoiling import spoiled
from tests.test_compiler import Tables

WRONG_MODULES = (None, True, 0, "", (), [], ((), (), 0, 0), [(), (), 0], ((), [], 0), ((), (function_of(),), True))


def shown_by(*values):
    return ("end", "", values)


class Runs(unittest.TestCase):
    def run_code(self, text, own=(), catches=(), given=(), bound=1000):
        return run_plain(tree_module(text, own, catches), given, bound)

    def test_each_instruction(self):
        for text, values in DOINGS:
            with self.subTest(code=text):
                self.assertEqual(self.run_code(text, given=(8, -9)), shown_by(*values))

    def test_faults(self):
        for text, word in FAULTS:
            with self.subTest(code=text):
                outcome = self.run_code("int 5 ; show ; " + text, given=(8,))
                self.assertEqual(outcome, ("fault", (word, "main"), (5,)))
        self.assertEqual(self.run_code("int 1000 ; row int ; size ; show ; done"), shown_by(1000))

    def test_a_text_of_two_hundred_signs_and_one_more(self):
        text = "text " + "x" * 40 + " ; twin ; add ; twin ; add ; text " + "y" * 40 + " ; add ; "
        self.assertEqual(self.run_code(text + "size ; show ; done"), shown_by(200))
        self.assertEqual(self.run_code(text + "text z ; add ; drop ; done"), ("fault", ("size", "main"), ()))

    def test_beats(self):
        """Calls, asks that are not of nil, and jumps and ifs that go to a place not behind theirs."""
        for text, beats in (
            ("done", 0), ("call 6 ; done", 1), ("new A ; int 1 ; ask A m ; drop ; done", 1),
            ("jump 1 ; truth true ; if 3 ; done", 0), ("truth false ; if 0 ; done", 0),
            ("jump 3 ; int 1 ; jump 5 ; jump 4 ; jump 1 ; drop ; done", 1),
            ("jump 2 ; jump 4 ; truth true ; if 1 ; done", 1),
        ):
            with self.subTest(code=text):
                if beats > 0:
                    self.assertEqual(self.run_code(text, bound=beats - 1), ("spent", "", ()))
                self.assertEqual(self.run_code(text, bound=beats), ("end", "", ()))
        self.assertEqual(self.run_code("nil ; as A ; int 1 ; ask A m ; drop ; done", bound=0), ("fault", ("nil", "main"), ()))
        # To its own place is not behind it.
        self.assertEqual(self.run_code("int 1 ; show ; jump 2", bound=3), ("spent", "", (1,)))
        self.assertEqual(self.run_code("jump 0", bound=10 ** 6), ("spent", "", ()))

    def test_the_two_hundredth_frame(self):
        down = function_of(name="down", params=("int",), code=read_code(
            "load 0 ; int 0 ; same ; if 8 ; load 0 ; int 1 ; sub ; call 1 ; done"))
        for calls, outcome in ((198, ("end", "", ())), (199, ("fault", ("deep", "down"), ()))):
            module = module_of(function_of(name="main", code=(("int", calls), ("call", 1), ("done",))), down)
            self.assertEqual(verify(module), None)
            self.assertEqual(run_plain(module, (), 1000), outcome)
        # The beat of the call that is deep is counted ahead of that.
        self.assertEqual(run_plain(module, (), 199), ("spent", "", ()))
        self.assertEqual(run_plain(module, (), 200), ("fault", ("deep", "down"), ()))
        self.assertEqual(counts(module, (), 1000), (1, 199))
        self.assertEqual(len(frames_at(module, (), 199)[0]), 200)
        self.assertIsNone(frames_at(module, (), 200))

    def test_deep_is_told_of_the_caller(self):
        module = (TREE, (
            ("main", (), None, (), read_code("new B ; int 1 ; ask A m ; drop ; done"), ()), OTHERS[0],
            ("B.m", (("of", "B"), "int"), "int", (), read_code("load 0 ; load 1 ; ask B m ; done"), ()), *OTHERS[2:]), 0)
        self.assertEqual(run_plain(module, (), 1000), ("fault", ("deep", "B.m"), ()))
        self.assertEqual(counts(module, (), 1000)[:3], (1, 0, 199))

    def test_throws_through_frames_that_wait(self):
        inner = function_of(name="inner", code=read_code("new E ; throw"))
        middle = function_of(name="middle", code=read_code("call 1 ; jump 2 ; done ; drop ; done"), catches=((0, 1, 3, "D"), (1, 3, 3, "A")))
        for begin, end, name, caught in (
            (1, 2, "A", True), (1, 2, "E", True), (1, 2, "D", False), (0, 1, "A", False), (2, 3, "A", False), (0, 3, "B", True),
        ):
            main = function_of(name="main", code=read_code("int 1 ; call 2 ; drop ; done ; drop ; int 4 ; show ; done"),
                               catches=((begin, end, 4, name),))
            module = (tuple(each[:3] + ((),) for each in TREE), (main, inner, middle), 0)
            self.assertEqual(verify(module), None)
            outcome = shown_by(4) if caught else ("fault", ("thrown", "inner"), ())
            self.assertEqual(run_plain(module, (), 10), outcome)

    def test_each_frame_that_waits_is_asked_from_the_innermost_on(self):
        module = compiled(read_program(
            "class A { int n ; } class B above A { } def hit ( A a , int k ) { if ( k < 1 ) { throw a ; } else { ( hit ( a , ( k - 1 ) ) ) ; } } "
            "def one ( A a , int k ) { try { ( hit ( a , k ) ) ; show 1 ; } catch B e { show 2 ; a . n = ( ( a . n ) + 1 ) ; } show ( a . n ) ; } "
            "def two ( A a , int k ) : int { try { ( one ( a , k ) ) ; show 3 ; } catch A e { show ( ( e = a ) and ( not ( e is B ) ) ) ; return k ; } return 7 ; } "
            "def main ( ) { var int i = 0 ; while ( i < 3 ) { show ( two ( ( new A ) , i ) ) ; show ( two ( ( new B ) , i ) ) ; i = ( i + 1 ) ; } ( hit ( ( new B ) , 2 ) ) ; }"))
        shown = tuple(value for index in range(3) for value in (True, index, 2, 1, 3, 7))
        self.assertEqual(run_plain(module, (), 1000), ("fault", ("thrown", "hit"), shown))

    def test_the_first_catch_that_fits_is_taken(self):
        for names, value in ((("D", "A", "B"), 2), (("B", "A", "D"), 1), (("E", "C", "B"), 3)):
            catches = tuple((0, 2, 2 + 4 * at, name) for at, name in enumerate(names))
            text = "new B ; throw ; " + " ; ".join(f"drop ; int {at} ; show ; done" for at in (1, 2, 3))
            self.assertEqual(self.run_code(text, catches=catches), shown_by(value))

    def test_what_was_on_the_stack_is_gone_when_something_is_caught(self):
        text = "int 1 ; int 2 ; new A ; throw ; throw"
        self.assertEqual(self.run_code(text, catches=((0, 4, 4, "A"),)), ("fault", ("thrown", "main"), ()))

    def test_mixed_values_and_nil_s_own_kind(self):
        mixed = "truth true ; if 4 ; int 1 ; jump 5 ; truth true ; twin ; drop ; drop ; done"
        self.assertEqual(self.run_code(mixed), ("end", "", ()))
        self.assertEqual(self.run_code("nil ; int 0 ; at ; show ; done"), ("fault", ("nil", "main"), ()))


class Refusing(unittest.TestCase):
    def refused(self, error, deed, *told, **named):
        with self.assertRaises(error) as caught:
            deed(*told, **named)
        self.assertIs(type(caught.exception), error)
        return caught.exception

    def test_modules(self):
        for module in WRONG_MODULES:
            for deed in (run_plain, frames_at, counts, made):
                self.refused(BadModule, deed, module, None, None)
            self.refused(BadModule, calls_of, module)
            self.refused(BadModule, reached_from_main, module)
        wrong = with_code(("add",), ("done",))
        for deed in (run_plain, frames_at, counts, made):
            self.assertEqual(self.refused(NotVerified, deed, wrong, None, None).what, ("short", 0, 0))
        for deed in (calls_of, reached_from_main):
            self.assertEqual(self.refused(NotVerified, deed, wrong).what, ("short", 0, 0))

    def test_given_and_counts(self):
        module = with_code(("done",))
        for deed, word in ((run_plain, "bound"), (counts, "bound"), (made, "bound"), (frames_at, "beats")):
            for given in (None, [], 5, (True,), (None,), (2 ** 31,), (-2 ** 31 - 1,), ("1",), ((),), (0,) * 1001):
                self.refused(BadGiven, deed, module, given, None)
            for count in (None, True, -1, 10 ** 6 + 1, "1", (1,)):
                self.refused(BadCount, deed, module, (), count)
            for count in (0, 10 ** 6):
                named = {"module": module, "given": (2 ** 31 - 1, -2 ** 31) + (0,) * 998, word: count}
                self.assertEqual(deed(**named), deed(*named.values()))


class Frames(unittest.TestCase):
    def test_the_example(self):
        module = compiled(EXAMPLE)
        self.assertEqual(run_plain(module, (), 6), shown_by(13))
        self.assertEqual(run_plain(module, (), 5), ("spent", "", ()))
        self.assertIsNone(frames_at(module, (), 6))
        frames, things = frames_at(module, (), 5)
        self.assertEqual([frame[0] for frame in frames], [0, 1, 1])
        self.assertEqual(frames[0][2], (("thing", 0), 3, "unset"))
        self.assertEqual(frames[2][2:], ((("thing", 1), 12), (("thing", 2), 13)))
        self.assertEqual(things, (
            ("of", "Node", (2, ("thing", 1))), ("of", "Node", (1, ("thing", 2))), ("of", "Node", (0, None))))
        self.assertEqual([graph_size(frames_at(module, (), beats)) for beats in range(6)], [4, 8, 12, 12, 12, 12])

    def test_all_sorts_of_values(self):
        text = (
            "int 2 ; row A ; store 0 ; text ab ; store 1 ; load 0 ; int 1 ; new B ; set ; "
            "truth true ; int -5 ; nil ; load 1 ; load 0 ; int 1 ; at ; truth true ; if 20 ; int 1 ; jump 21 ; truth false ; call 6 ; "
            "drop ; drop ; drop ; drop ; drop ; drop ; done")
        module = tree_module(text, own=(("row", ("of", "A")), "text", "int", "text"))
        self.assertEqual(verify(module), None)
        frames, things = frames_at(module, (), 0)
        self.assertEqual(frames, ((0, 21, (("thing", 0), ("thing", 1), "unset", "unset"),
                                   (True, -5, None, ("thing", 1), ("thing", 2), "mixed")),))
        self.assertEqual(things, (
            ("row", ("of", "A"), (None, ("thing", 2))), ("text", "ab"),
            ("of", "B", (0, None, None, None, None))))
        self.assertEqual(graph_size((frames, things)), 2 + 2 + 2 + 2 + 2 + 5)

    def test_what_is_handed_in_lies_on_the_stack_until_the_beat(self):
        functions = (
            function_of(name="main", own=("int",), code=read_code("int 7 ; int 1 ; text ab ; call 1 ; drop ; drop ; done")),
            function_of(name="f", params=("int", "text"), result="int", own=("text",), code=read_code("truth true ; if 0 ; load 0 ; done")),
        )
        module = module_of(*functions)
        self.assertEqual(frames_at(module, (), 0), (
            ((0, 3, ("unset",), (7, 1, ("thing", 0))),), (("text", "ab"),)))
        self.assertEqual(frames_at(module, (), 1), (
            ((0, 4, ("unset",), (7,)), (1, 1, (1, ("thing", 0), "unset"), (True,))), (("text", "ab"),)))

    def test_unset_and_mixed_of_a_frame_that_waits_are_those_of_its_call(self):
        """Behind the call the local is not set and the value is mixed, as other ways come there."""
        main = function_of(name="main", own=("int",), code=read_code(
            "truth true ; if 4 ; truth true ; jump 7 ; int 5 ; store 0 ; int 3 ; call 1 ; drop ; done"))
        loop = function_of(name="loop", code=read_code("jump 0"))
        module = module_of(main, loop)
        self.assertEqual(verify(module), None)
        self.assertEqual(frames_at(module, (), 1), (((0, 8, ("unset",), ("mixed",)), (1, 0, (), ())), ()))
        main = function_of(name="main", own=("int",), code=read_code(
            "truth true ; if 4 ; truth true ; jump 8 ; int 5 ; store 0 ; int 3 ; call 1 ; drop ; done"))
        module = module_of(main, loop)
        self.assertEqual(verify(module), None)
        self.assertEqual(frames_at(module, (), 1), (((0, 8, (5,), (3,)), (1, 0, (), ())), ()))

    def test_none_where_the_run_ends_ahead(self):
        module = tree_module("nil ; as A ; int 1 ; ask A m ; drop ; done")
        self.assertIsNone(frames_at(module, (), 0))
        self.assertIsNone(frames_at(with_code(("done",)), (), 0))
        self.assertEqual(frames_at(with_code(("jump", 0)), (), 10 ** 6), (((0, 0, (), ()),), ()))


class Counts(unittest.TestCase):
    def test_calls(self):
        text = "new B ; int 1 ; ask A m ; drop ; call 6 ; done ; new D ; ask D m ; drop ; done"
        module = tree_module(text)
        # An ask of an A may be one of a B or an E, too; what no run comes to counts as well.
        found = calls_of(module)
        self.assertEqual(found, [(0, 1), (0, 2), (0, 4), (0, 6)])
        self.assertIsNot(found, calls_of(module))
        self.assertEqual(reached_from_main(module), (0, 1, 2, 4, 6))
        self.assertEqual(calls_of(tree_module("new B ; int 1 ; ask B m ; drop ; done")), [(0, 2)])
        self.assertEqual(calls_of(tree_module("new C ; int 1 ; ask C m ; drop ; done")), [(0, 1)])
        self.assertEqual(calls_of(tree_module("done")), [])
        self.assertEqual(reached_from_main(tree_module("done")), (0,))

    def test_reached_by_others(self):
        functions = [function_of(name=f"f{at}", code=read_code("".join(f"call {to} ; " for to in calls) + "done"))
                     for at, calls in enumerate(((0,), (0, 3), (4,), (2, 2), (), (1,)))]
        self.assertEqual(calls_of(module_of(*functions)), [(0, 0), (1, 0), (1, 3), (2, 4), (3, 2), (5, 1)])
        for main, reached in ((0, (0,)), (1, (0, 1, 2, 3, 4)), (3, (2, 3, 4)), (5, (0, 1, 2, 3, 4, 5))):
            self.assertEqual(reached_from_main(module_of(*functions, main=main)), reached)

    def test_counts_and_made(self):
        text = "text a ; text b ; add ; drop ; int 3 ; tell ; drop ; int 2 ; row int ; drop ; new B ; int 1 ; ask A m ; drop ; jump 0"
        module = tree_module(text)
        self.assertEqual(counts(module, (), 5), (1, 0, 3, 0, 0, 0, 0, 0))
        self.assertEqual(made(module, (), 5), [("B", 3), ("row", 3), ("text", 12)])
        self.assertEqual(made(module, (), 4), [("B", 3), ("row", 3), ("text", 12)])
        self.assertEqual(counts(module, (), 4), (1, 0, 2, 0, 0, 0, 0, 0))
        self.assertEqual(made(tree_module("done"), (), 0), [])
        self.assertEqual(made(tree_module("int -1 ; row int ; drop ; done"), (), 0), [])
        self.assertEqual(made(tree_module("text a ; nil ; add ; drop ; done"), (), 0), [("text", 1)])


class Agreement(unittest.TestCase):
    """Made programs and spoiled modules, beside the small machine of the tests."""

    def test_programs(self):
        for at, program in enumerate(made_programs(4000, 40)):
            module = compiled(program)
            tables = Tables(module)
            given = tuple(range(-1, at % 5))
            for bound in (0, 1, 2, 5, 20, 300):
                with self.subTest(at=at, bound=bound):
                    outcome = run_plain(module, given, bound)
                    self.assertEqual(outcome, mean(program, given, bound))
                    self.same_frames(module, given, bound, tables)

    def same_frames(self, module, given, beats, tables):
        graph = frames_at(module, given, beats)
        self.assertEqual(graph, graph_module(module, given, beats, tables))
        self.assertEqual(graph is None, run_plain(module, given, beats)[0] != "spent")
        if graph is not None:
            self.assertTrue(same_graph(graph, frames_at(module, given, beats)))

    def test_modules(self):
        chance = random.Random(6)
        let = 0
        for program in made_programs(5000, 30):
            for _ in range(8):
                module = spoiled(chance, compiled(program))
                if verify(module) is not None:
                    continue
                let += 1
                tables = Tables(module)
                for bound in (0, 3, 50):
                    self.assertEqual(run_plain(module, (1, 0, 2, -1), bound), run_module(module, (1, 0, 2, -1), bound)[0])
                    self.same_frames(module, (1, 0, 2, -1), bound, tables)
        self.assertGreater(let, 30)


if __name__ == "__main__":
    unittest.main()
