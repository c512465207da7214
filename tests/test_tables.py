"""heights, stack_kinds and set_locals: what is known of each place of code (point 19)."""

import unittest

from movedrun.compiler import compiled
from movedrun.errors import BadIndex, BadModule, NotVerified
from movedrun.verifier import heights, set_locals, stack_kinds
from tests.building import EXAMPLE
from tests.modulebuilding import OTHERS, TREE, read_code, tree_module

ALL = (heights, stack_kinds, set_locals)
A, B, E = ("of", "A"), ("of", "B"), ("of", "E")


class Tables(unittest.TestCase):
    def tables(self, text, *rows, own=(), catches=()):
        """rows are by place (kinds, what is set), None for a place without kinds; heights are told by kinds."""
        module = tree_module(text, own, catches)
        with self.subTest(text=text):
            self.assertEqual(len(rows), text.count(";") + 1)
            self.assertEqual(repr(stack_kinds(module, 0)), repr(tuple(row and row[0] for row in rows)))
            self.assertEqual(repr(set_locals(module, 0)), repr(tuple(row and row[1] for row in rows)))
            for height, row in zip(heights(module, 0), rows):
                self.assertTrue(row is None or height == len(row[0]))

    def high(self, text, *found, catches=()):
        with self.subTest(text=text):
            self.assertEqual(heights(tree_module(text, (), catches), 0), found)


class Arguments(unittest.TestCase):
    def test_of_two_wrong_ones_the_first_is_told(self):
        for ask in ALL:
            for index in (0, None, -1):
                with self.assertRaises(BadModule):
                    ask(None, index)
                with self.assertRaises(NotVerified) as caught:
                    ask(tree_module("nil; not; drop; done"), index)
                self.assertEqual(caught.exception.what, ("kind", 0, 1))

    def test_indexes(self):
        module = tree_module("done")
        for ask in ALL:
            for index in (8, 9999, 10 ** 30, -1, None, True, False, "0", (), (0,), [0], {}, b"0", object()):
                with self.assertRaises(BadIndex):
                    ask(module, index)
            for index in range(8):
                self.assertEqual(len(ask(module, index)), len(module[1][index][4]))

    def test_by_name(self):
        for ask in ALL:
            self.assertEqual(ask(index=0, module=tree_module("done")), ask(tree_module("done"), 0))

    def test_forms(self):
        module = tree_module("int 1; store 0; done; done", ("int",))
        self.assertEqual(repr(heights(module, 0)), "(0, 1, 0, None)")
        self.assertEqual(repr(stack_kinds(module, 0)), "((), ('int',), (), None)")
        self.assertEqual(repr(set_locals(module, 0)), "((), (), (0,), None)")


class Straight(Tables):
    def test_kinds(self):
        self.tables(
            "int 1; truth true; text a; nil; drop; drop; drop; drop; done",
            ((), ()), (("int",), ()), (("int", "truth"), ()), (("int", "truth", "text"), ()),
            (("int", "truth", "text", "nil"), ()), (("int", "truth", "text"), ()), (("int", "truth"), ()), (("int",), ()),
            ((), ()))
        self.tables("nil; twin; add; show; done", ((), ()), (("nil",), ()), (("nil", "nil"), ()), (("text",), ()), ((), ()))
        self.tables("int 1; row row A; int 0; at; drop; done", ((), ()), (("int",), ()), ((("row", ("row", A)),), ()),
                    ((("row", ("row", A)), "int"), ()), ((("row", A),), ()), ((), ()))
        self.tables("nil; get E next; drop; done", ((), ()), (("nil",), ()), ((A,), ()), ((), ()))
        self.tables("int 1; nil; call 5; drop; done", ((), ()), (("int",), ()), (("int", "nil"), ()), ((B,), ()), ((), ()))
        self.tables("new E; int 1; ask B m; drop; done", ((), ()), ((E,), ()), ((E, "int"), ()), (("int",), ()), ((), ()))

    def test_what_is_set(self):
        self.tables("int 1; store 2; nil; store 0; int 1; store 2; done",
                    ((), ()), (("int",), ()), ((), (2,)), (("nil",), (2,)), ((), (0, 2)), (("int",), (0, 2)), ((), (0, 2)),
                    own=("text", "int", "int"))

    def test_params_are_set(self):
        module = tree_module("done")
        self.assertEqual(set_locals(module, 1), ((0, 1), (0, 1)))
        self.assertEqual(stack_kinds(module, 1), ((), ("int",)))
        self.assertEqual(heights(module, 1), (0, 1))
        function = ("x", ("int",), None, ("int", "int"), read_code("int 1; store 2; load 0; store 1; done"), ())
        module = (TREE, (("main", (), None, (), (("done",),), ()), *OTHERS, function), 0)
        self.assertEqual(set_locals(module, 8), ((0,), (0,), (0, 2), (0, 2), (0, 1, 2)))


class Ways(Tables):
    def test_jumps(self):
        self.tables("jump 2; done; truth true; if 1; jump 2", ((), ()), ((), ()), ((), ()), (("truth",), ()), ((), ()))

    def test_what_cannot_be_come_to(self):
        self.tables("jump 3; nil; not; done", ((), ()), None, None, ((), ()))
        self.high("jump 3; nil; not; done", 0, None, None, 0)
        self.high("done; jump 0; throw", 0, None, None)
        self.high("nil; throw; done", 0, 1, None)

    def test_ways_meet(self):
        self.tables("truth true; if 5; new B; store 0; jump 7; new E; store 1; nil; drop; done",
                    ((), ()), (("truth",), ()), ((), ()), ((B,), ()), ((), (0,)), ((), ()), ((E,), ()), ((), ()), (("nil",), ()),
                    ((), ()), own=(A, A))
        for first, second, kind in (
                ("new B", "new C", A), ("new E", "new B", B), ("new A", "new D", "mixed"), ("nil", "new B", B), ("nil", "nil", "nil"),
                ("nil", "text a", "text"), ("int 1", "nil", "mixed"), ("int 1", "truth true", "mixed"), ("int 1", "int 2", "int"),
                ("text a", "new A", "mixed"), ("nil", "int 1", "mixed"), ("new E", "new C", A)):
            for one, other in ((first, second), (second, first)):
                found = stack_kinds(tree_module(f"truth true; if 4; {one}; jump 5; {other}; drop; done"), 0)
                self.assertEqual(found[5], (kind,), (one, other))

    def test_rows_meet(self):
        for first, second, kind in (
                ("int", "int", ("row", "int")), ("int", "truth", "mixed"), ("A", "B", "mixed"), ("row int", "int", "mixed"),
                ("row A", "row A", ("row", ("row", A)))):
            text = f"truth true; if 5; int 0; row {first}; jump 7; int 0; row {second}; drop; done"
            self.assertEqual(stack_kinds(tree_module(text), 0)[7], (kind,))
            text = f"truth true; if 4; nil; jump 6; int 0; row {first}; drop; done"
            self.assertEqual(stack_kinds(tree_module(text), 0)[6][0][0], "row")

    def test_round_and_round(self):
        found = stack_kinds(tree_module("nil; twin; drop; drop; new E; truth true; if 1; drop; new C; truth true; if 1; drop; done"), 0)
        self.assertEqual(found[1:5], ((A,), (A, A), (A,), ()))
        self.assertEqual(found[7], (E,))
        found = set_locals(tree_module("jump 2; jump 2; int 1; store 0; truth true; if 1; done", ("int",)), 0)
        self.assertEqual(found, ((), (0,), (), (), (0,), (0,), (0,)))

    def test_mixed_is_given_on(self):
        # Between a twin and its drops, and below what else is done, what is mixed stays so.
        text = "truth true; if 4; int 1; jump 5; nil; twin; drop; int 2; tell; drop; drop; done"
        found = stack_kinds(tree_module(text), 0)
        self.assertEqual(found[5:12], (("mixed",), ("mixed", "mixed"), ("mixed",), ("mixed", "int"), ("mixed", "text"),
                                       ("mixed",), ()))


class NilRows(Tables):
    def test_what_only_an_at_of_nil_leads_to(self):
        text = "nil; int 0; at; store 0; load 0; drop; done"
        self.tables(text, ((), ()), (("nil",), ()), (("nil", "int"), ()), None, None, None, None, own=("int",))
        self.high("nil; int 0; at; drop; done", 0, 1, 2, 1, 0)

    def test_where_something_else_leads_to_it(self):
        self.tables("truth true; if 6; nil; int 0; at; jump 7; int 1; store 0; done",
                    ((), ()), (("truth",), ()), ((), ()), (("nil",), ()), (("nil", "int"), ()), None, ((), ()), (("int",), ()),
                    ((), (0,)), own=("int",))

    def test_its_way_counts_for_what_is_set(self):
        # By the way behind the at the local is not set.
        text = "truth true; if 7; nil; int 0; at; drop; jump 9; int 1; store 0; nil; drop; done"
        self.tables(text, ((), ()), (("truth",), ()), ((), ()), (("nil",), ()), (("nil", "int"), ()), None, None,
                    ((), ()), (("int",), ()), ((), ()), (("nil",), ()), ((), ()), own=("int",))


class Catches(Tables):
    def test_what_is_caught(self):
        self.tables("int 1; store 0; new E; throw; store 1; done", ((), ()), (("int",), ()), ((), (0,)), ((E,), (0,)),
                    ((B,), (0,)), ((), (0, 1)), own=("int", A), catches=((2, 4, 4, "B"),))
        self.tables("int 1; store 0; new E; throw; store 1; done", ((), ()), (("int",), ()), ((), (0,)), ((E,), (0,)),
                    ((B,), ()), ((), (1,)), own=("int", A), catches=((0, 1, 4, "B"),))

    def test_two_lead_to_one_place(self):
        self.tables("int 1; store 0; nil; throw; drop; done", ((), ()), (("int",), ()), ((), (0,)), (("nil",), (0,)),
                    ((A,), ()), ((), ()), own=("int",), catches=((2, 4, 4, "C"), (1, 2, 4, "E")))

    def test_whose_range_is_not_come_to(self):
        self.tables("jump 3; nil; throw; done; drop; done", ((), ()), None, None, ((), ()), None, None, catches=((1, 3, 4, "A"),))
        self.high("jump 3; nil; throw; done; drop; done", 0, None, None, 0, None, None, catches=((1, 3, 4, "A"),))
        self.high("jump 3; nil; throw; done; drop; done", 0, None, None, 0, 1, 0, catches=((1, 4, 4, "A"),))

    def test_whose_range_has_no_kinds(self):
        self.tables("nil; int 0; at; throw; drop; done", ((), ()), (("nil",), ()), (("nil", "int"), ()), None, None, None,
                    catches=((3, 4, 4, "A"),))
        self.high("nil; int 0; at; throw; drop; done", 0, 1, 2, 1, 1, 0, catches=((3, 4, 4, "A"),))


class Compiled(Tables):
    def test_the_example(self):
        module = compiled(EXAMPLE)
        for index, function in enumerate(module[1]):
            for height, kinds, found in zip(heights(module, index), stack_kinds(module, index), set_locals(module, index)):
                if kinds is not None:
                    self.assertEqual(len(kinds), height)
                    self.assertEqual(found, tuple(sorted(set(found))))
                    self.assertTrue(set(range(len(function[1]))) <= set(found))


if __name__ == "__main__":
    unittest.main()
