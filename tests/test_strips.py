"""Strips: which are right for a module (points 38 and 39)."""

import unittest

from movedrun.errors import BadModule, NotVerified
from movedrun.machine import runs_alike
from movedrun.strips import strip_holds
from movedrun.verifier import stack_kinds, verify
from tests.modulebuilding import TREE, function_of, module_of, read_code, tree_module, with_code


def r(number):
    return ("r", number)


def n(number):
    return ("int", number)


NIL = ("nil",)
OUT = ("out",)

LOOP = module_of(function_of(name="main", own=("int",), code=read_code(
    "int 0 ; store 0 ; load 0 ; int 3 ; less ; if 7 ; done ; load 0 ; int 1 ; add ; store 0 ; jump 2")))


def at(place, slot, *stack):
    return ((0, place, (slot,), stack),)


# From the place 0 all is known; from the loop's head it goes round by moves.
LOOP_ROWS = (
    (at(11, n(1)), (), ("beat",), 1),
    (at(11, n(2)), (), ("beat",), 2),
    (at(11, n(3)), (), ("beat",), 3),
    (at(6, n(3)), (), ("done",), None),
    (at(4, r(0), r(0), n(3)), (), ("do", 1), 5),
    (at(5, r(0), r(1)), (), ("if",), (6, 7)),
    (at(6, r(0)), (), ("done",), None),
    (at(9, r(0), r(0), n(1)), (), ("do", 1), 8),
    (at(11, r(1)), (), ("beat",), 9),
    (at(2, r(1)), (), ("moves", ((0, r(1)),)), 4),
)
LOOP_STRIP = (0, ((0, 0), (2, 4)), LOOP_ROWS)


class Judging(unittest.TestCase):
    module = LOOP
    strip = LOOP_STRIP

    def setUp(self):
        self.assertEqual(verify(self.module), None)

    def holds(self, strip):
        found = strip_holds(self.module, strip)
        self.assertIsInstance(found, bool)
        if found:
            for schedule in ((), (8,), (1, 9), (4, 0, 8)):
                for bound in (0, 2, 40):
                    self.assertIsNone(runs_alike(self.module, (5, 6), bound, (16, 10, 8, 2), schedule, (strip,)))
        return found

    def row(self, index, **parts):
        """The strip with parts of a row exchanged."""
        rows = list(self.strip[2])
        rows[index] = tuple(parts.get(word, old) for word, old in zip(("view", "facts", "deed", "behind"), rows[index]))
        return self.strip[:2] + (tuple(rows),)

    def added(self, strip, *rows):
        return strip[:2] + (strip[2] + rows,)


class Loops(Judging):
    def test_the_strip_itself(self):
        self.assertTrue(self.holds(LOOP_STRIP))
        self.assertTrue(strip_holds(module=LOOP, thing=LOOP_STRIP))

    def test_modules_come_first(self):
        for module in (None, (), ((), (), 0, 0), True):
            with self.assertRaises(BadModule):
                strip_holds(module, None)
        with self.assertRaises(NotVerified) as caught:
            strip_holds(with_code(("add",), ("done",)), LOOP_STRIP)
        self.assertEqual(caught.exception.what, ("short", 0, 0))

    def test_forms(self):
        function, entries, rows = LOOP_STRIP
        for strip in (None, True, 0, "", (), [], [function, entries, rows], (function, entries), LOOP_STRIP + ((),),
                      (function, list(entries), rows), (function, entries, list(rows)), (function, entries, ()), (function, (), ()),
                      (False, entries, rows), (1, entries, rows), (-1, entries, rows), (None, entries, rows), ("0", entries, rows)):
            self.assertFalse(self.holds(strip))
        for row in (None, (), [], list(rows[3]), rows[3][:3], rows[3] + (None,), True):
            self.assertFalse(self.holds((function, entries, rows[:3] + (row,) + rows[4:])), row)

    def test_entries(self):
        for entries in ((), ((0, 0),), ((2, 4),), ((2, 4), (0, 0)), ((0, 0), (2, 4), (2, 4)), ((0, 0), (0, 0), (2, 4)), ((0, 0), (2, 5)),
                        ((0, 1), (2, 4)), ((0, 0), (2, 10)), ((0, 0), (2, -1)), ((False, 0), (2, 4)), ((0, False), (2, 4)), ((0, 0), (1, 0), (2, 4)),
                        ([0, 0], (2, 4)), ((0, 0, 0), (2, 4)), ((0,), (2, 4)), (None, (2, 4)), ((0, None), (2, 4))):
            self.assertFalse(self.holds((0, entries, LOOP_ROWS)), entries)

    def test_views(self):
        for index, view in (
            # Not settled, though the deed would fit behind.
            (0, at(10, None, n(1))), (4, at(3, r(0), r(0))), (4, at(2, r(0))),
            # No views at all.
            (4, at(4, r(0), r(0), n(2 ** 31))), (4, at(4, r(0), r(0))), (4, at(4, None, r(0), n(3))), (4, ()), (4, None), (4, at(12, r(0))),
            (4, at(4, r(0), r(0), NIL)), (4, at(4, r(0), r(0), ("truth", True))), (4, at(4, r(0), r(True), n(3))),
            # Views of other sources than those that are led to.
            (4, at(4, r(0), r(1), n(3))), (4, at(4, r(1), r(1), n(3))), (4, at(4, r(0), r(0), n(4))), (0, at(11, n(2))), (0, at(11, r(0))),
            (6, at(6, r(1))), (8, at(11, r(0))), (9, at(2, r(0))),
        ):
            self.assertFalse(self.holds(self.row(index, view=view)), (index, view))

    def test_deeds_that_do_not_fit(self):
        for index, right in ((0, "beat"), (3, "done"), (4, "do"), (5, "if"), (9, "moves")):
            for deed in (("beat",), ("done",), ("do", 1), ("do", None), ("if",), ("call", 1), ("call", None), ("enter",), ("leave",),
                         ("guard", "A"), ("moves", ()), None, (), "out", ("out", None), ["out"], ("do",), ("do", 1, 2), ("if", 1), ("beat", 0),
                         ("Done",), ("Moves", ()), ("xyz", ()), (None,), (0,), ("moves",), ("moves", None), ("guard",), ("guard", None), ("guard", 5), ("call",)):
                if deed is None or deed == () or deed[0] != right or len(deed) != len(LOOP_ROWS[index][2]):
                    for behind in (LOOP_ROWS[index][3], None, 1, (6, 7)):
                        self.assertFalse(self.holds(self.row(index, deed=deed, behind=behind)), (index, deed))

    def test_out_may_stand_anywhere(self):
        for index in range(len(LOOP_ROWS) - 1):
            self.assertTrue(self.holds(self.row(index, deed=OUT, behind=None)))
            self.assertFalse(self.holds(self.row(index, deed=OUT, behind=3)))
        # At a view that is not settled it may not.
        self.assertFalse(self.holds(self.row(9, deed=OUT, behind=None)))
        self.assertTrue(self.holds(self.row(9, view=at(4, r(1), r(1), n(3)), deed=OUT, behind=None)))

    def test_rows_behind(self):
        for index, behind in ((0, None), (0, 2), (0, True), (0, 10), (0, -1), (0, (1, 1)), (3, 3), (3, (1, 1)), (4, None), (4, 6), (5, 6), (5, (7, 6)),
                              (5, (6,)), (5, (6, 7, 7)), (5, [6, 7]), (5, None), (5, (6, 10)), (5, (10, 7)), (5, (-4, 7)), (5, (6, -3)), (5, (True, 7)), (9, None), (9, 5), (9, 9), (9, 8)):
            self.assertFalse(self.holds(self.row(index, behind=behind)), (index, behind))

    def test_registers_that_are_written(self):
        for number in (None, 0, -1, 200, True, "1"):
            self.assertFalse(self.holds(self.row(4, deed=("do", number))), number)
        # Nowhere else in the view behind: the local is read again.
        strip = self.row(4, deed=("do", 0))
        rows = list(strip[2])
        rows[5] = (at(5, r(0), r(0)), (), ("if",), (6, 7))
        self.assertFalse(self.holds(strip[:2] + (tuple(rows),)))
        # Any other one will do, up to the last.
        for number in (1, 2, 199):
            rows = list(LOOP_ROWS)
            rows[4] = rows[4][:2] + (("do", number), 5)
            rows[5] = (at(5, r(0), r(number)), (), ("if",), (6, 7))
            self.assertTrue(self.holds((0, LOOP_STRIP[1], tuple(rows))))
        rows[4] = rows[4][:2] + (("do", 200), 5)
        rows[5] = (at(5, r(0), r(200)), (), ("if",), (6, 7))
        self.assertFalse(self.holds((0, LOOP_STRIP[1], tuple(rows))))

    def test_what_is_written_may_be_put_elsewhere_by_silent_steps(self):
        """The sum is stored: in the view right behind the deed it stands once, on the stack."""
        rows = list(LOOP_ROWS)
        rows[7] = rows[7][:2] + (("do", 0), 8)
        rows[8] = (at(11, r(0)), (), ("beat",), 4)
        # The register of the local is not read any more: but right behind the deed it is there still.
        self.assertFalse(self.holds((0, LOOP_STRIP[1], tuple(rows))))

    def test_moves(self):
        for pairs in (((0, r(1)),), ((0, r(1)), (7, n(5))), ((0, r(1)), (1, r(0))), ((0, r(1)), (1, NIL), (199, ("truth", False))), ((0, r(1)), (5, r(199)))):
            for view in (at(2, r(1)), at(3, r(1), r(1)), at(4, r(1), r(1), n(3))):
                self.assertTrue(self.holds(self.row(9, view=view, deed=("moves", pairs))), pairs)
        for pairs in ((), ((0, r(0)),), ((0, n(1)),), ((1, r(0)),), ((0, r(1)), (0, r(1))), ((1, r(0)), (0, r(1))), ((0, None),), ((0, r(1)), (200, r(0))),
                      ((0, r(1)), (-1, r(0))), ((0, r(1)), (True, r(0))), ((False, r(1)),), ([0, r(1)],), ((0, r(1), 0),), [(0, r(1))], ((0, r(200)),),
                      ((0, r(1)), (5, r(200))), ((0, r(1)), (5, r(-1))), ((0, r(1)), (5, n(2 ** 31))), ((0, r(1)), (5, ("text", "a"))), (None,)):
            self.assertFalse(self.holds(self.row(9, deed=("moves", pairs))), pairs)

    def test_moves_of_nothing(self):
        strip = self.row(0, behind=10)
        self.assertTrue(self.holds(self.added(strip, (at(2, n(1)), (), ("moves", ()), 1))))
        self.assertTrue(self.holds(self.added(strip, (at(11, n(2)), (), ("moves", ((0, n(7)),)), 1))))
        self.assertFalse(self.holds(self.added(strip, (at(11, n(2)), (), ("moves", ()), 0))))
        # A view ahead of that which is led to is not passed.
        self.assertFalse(self.holds(self.added(strip, (at(11, n(1)), (), ("moves", ()), 0))))

    def test_moves_bring_constants_into_registers(self):
        strip = self.row(0, behind=10)
        good = self.added(strip, (at(2, n(1)), (), ("moves", ((0, n(1)),)), 4))
        self.assertTrue(self.holds(good))
        self.assertFalse(self.holds(self.added(strip, (at(2, n(1)), (), ("moves", ((0, n(2)),)), 4))))
        # The constants are reckoned with further than the register: any view passed may be the moves row's but what is behind.
        self.assertTrue(self.holds(self.added(strip, (at(4, n(1), n(1), n(3)), (), ("moves", ((0, n(1)),)), 4))))
        self.assertFalse(self.holds(self.added(strip, (at(11, n(2)), (), ("moves", ((0, n(1)),)), 4))))

    def test_an_entry_may_be_a_moves_row(self):
        """It is at the entry's place, or at one that is passed from there; the registers are those of the entry."""
        for view, pairs, right in ((at(2, r(0)), (), True), (at(3, r(0), r(0)), ((7, n(1)),), True), (at(4, r(0), r(0), n(3)), (), True),
                                   (at(2, r(1)), ((0, r(1)),), False), (at(2, r(0)), ((0, n(1)),), False), (at(5, r(0), r(1)), (), False)):
            strip = self.added(LOOP_STRIP, (view, (), ("moves", pairs), 4))
            self.assertEqual(self.holds((0, ((0, 0), (2, 10)), strip[2])), right, (view, pairs))
        strip = self.added(LOOP_STRIP, (at(0, None), (), ("moves", ()), 0))
        self.assertTrue(self.holds((0, ((0, 10), (2, 4)), strip[2])))

    def test_an_entry_with_values_on_the_stack(self):
        self.module = with_code(*read_code("read ; read ; twin ; show ; jump 2"))
        end = ((((0, 3, (), (r(0), r(1), r(1))),), (), ("do", None), 3), (((0, 4, (), (r(0), r(1))),), (), ("beat",), 2))
        rows = ((((0, 0, (), ()),), (), ("do", 0), 1), (((0, 1, (), (r(0),)),), (), ("do", 1), 2)) + end
        self.assertTrue(self.holds((0, ((0, 0), (2, 2)), rows)))
        end = ((((0, 3, (), (r(1), r(0), r(0))),), (), ("do", None), 3), (((0, 4, (), (r(1), r(0))),), (), ("beat",), 2))
        rows = ((((0, 0, (), ()),), (), ("do", 1), 1), (((0, 1, (), (r(1),)),), (), ("do", 0), 2)) + end
        self.assertFalse(self.holds((0, ((0, 0), (2, 2)), rows)))

    def test_a_jump_to_its_own_place_has_an_entry(self):
        self.module = with_code(*read_code("int 1 ; drop ; jump 2"))
        rows = ((((0, 2, (), ()),), (), ("beat",), 0),)
        self.assertTrue(self.holds((0, ((0, 0), (2, 0)), rows)))
        self.assertFalse(self.holds((0, ((0, 0),), rows)))

    def test_what_cannot_be_come_to_has_no_entry(self):
        self.module = with_code(*read_code("done ; int 1 ; drop ; jump 1"))
        rows = ((((0, 0, (), ()),), (), ("done",), None),)
        self.assertTrue(self.holds((0, ((0, 0),), rows)))
        self.module = with_code(*read_code("nil ; int 0 ; at ; drop ; jump 4"))
        rows = ((((0, 2, (), (NIL, n(0))),), (), OUT, None),)
        self.assertTrue(self.holds((0, ((0, 0),), rows)))
        self.assertFalse(self.holds((0, ((0, 0), (4, 0)), rows)))

    def test_no_moves_behind_moves(self):
        strip = self.row(9, behind=10)
        self.assertFalse(self.holds(self.added(strip, (at(4, r(0), r(0), n(3)), (), ("moves", ()), 4))))

    def test_moves_that_exchange(self):
        """Two locals change places each time round."""
        self.module = module_of(function_of(name="main", own=("int", "int", "int"), code=read_code(
            "read ; store 0 ; read ; store 1 ; load 0 ; store 2 ; load 1 ; store 0 ; load 2 ; store 1 ; load 0 ; show ; jump 4")))
        view = ((0, 11, (r(1), r(0), r(0)), (r(1),)),)
        rows = (
            (((0, 0, (None,) * 3, ()),), (), ("do", 0), 1), (((0, 2, (r(0), None, None), ()),), (), ("do", 1), 2),
            (view, (), ("do", None), 3), (((0, 12, (r(1), r(0), r(0)), ()),), (), ("beat",), 4),
            (((0, 4, (r(1), r(0), None), ()),), (), ("moves", ((0, r(1)), (1, r(0)))), 2),
        )
        self.assertTrue(self.holds((0, ((0, 0), (4, 2)), rows)))
        for pairs in (((0, r(1)),), ((1, r(0)),), ((0, r(0)), (1, r(1)))):
            bent = rows[:4] + (rows[4][:2] + (("moves", pairs), 2),)
            self.assertFalse(self.holds((0, ((0, 0), (4, 2)), bent)))

    def test_rows_up_to_four_thousand(self):
        row = (at(6, r(0)), (), ("done",), None)
        self.assertTrue(self.holds(self.added(LOOP_STRIP, *(row,) * (4000 - len(LOOP_ROWS)))))
        self.assertFalse(self.holds(self.added(LOOP_STRIP, *(row,) * (4001 - len(LOOP_ROWS)))))

    def test_registers_of_views(self):
        for number, right in ((0, True), (199, True), (200, False), (10 ** 9, False)):
            self.assertEqual(self.holds(self.added(LOOP_STRIP, (at(5, r(number), r(9)), (), OUT, None))), right)
            self.assertEqual(self.holds(self.added(LOOP_STRIP, (at(5, r(9), r(number)), (), OUT, None))), right)

    def test_each_row_is_looked_at_though_none_leads_there(self):
        self.assertTrue(self.holds(self.added(LOOP_STRIP, (at(5, r(3), r(9)), (), OUT, None))))
        self.assertFalse(self.holds(self.added(LOOP_STRIP, (at(5, r(3), r(9)), (), ("done",), None))))


# main's receiver is made known, asked, and asked again; A.m and B.m give back their int.
ASKS = tree_module("new B ; store 0 ; load 0 ; read ; ask A m ; show ; load 0 ; get A n ; show ; done", own=(("of", "A"),))
ASK_FACT = ((0, "B"),)
ASK_ROWS = (
    (((0, 0, (None,), ()),), (), ("do", 0), 1),
    (((0, 3, (r(0),), (r(0),)),), ASK_FACT, ("do", 1), 2),
    (((0, 4, (r(0),), (r(0), r(1))),), ASK_FACT, ("enter",), 3),
    (((0, 5, (r(0),), ()), (2, 1, (r(0), r(1)), (r(1),))), ASK_FACT, ("leave",), 4),
    (((0, 5, (r(0),), (r(1),)),), ASK_FACT, ("do", None), 5),
    (((0, 7, (r(0),), (r(0),)),), ASK_FACT, ("do", 2), 6),
    (((0, 8, (r(0),), (r(2),)),), (), ("do", None), 7),
    (((0, 9, (r(0),), ()),), (), ("done",), None),
)


class Asks(Judging):
    module = ASKS
    strip = (0, ((0, 0),), ASK_ROWS)

    def with_rows(self, exchanged, *more):
        rows = list(ASK_ROWS)
        for index, row in exchanged.items():
            rows[index] = row
        return (0, ((0, 0),), tuple(rows) + more)

    def test_the_strip_itself(self):
        self.assertTrue(self.holds(self.strip))

    def test_facts(self):
        for index in range(1, 6):
            # What is known may be forgotten, but where it is asked for, and behind that.
            rows = {at: ASK_ROWS[at][:1] + ((),) + ASK_ROWS[at][2:] for at in range(index, 6)}
            self.assertEqual(self.holds(self.with_rows(rows)), index > 2)
            self.assertFalse(self.holds(self.row(index, facts=())) and index < 3)
        for facts in (((0, "A"),), ((0, "E"),), ((1, "B"),), ((0, "B"), (0, "B")), ((0, "B"), (1, "B")), [(0, "B")], ((0, "B", 0),), ((0,),), ((False, "B"),),
                      (["B", 0],), ((0, None),), ((0, "class"),), ((200, "B"),), ((-1, "B"),), None, 0, ((5, "B"),), (("B", 0),)):
            self.assertFalse(self.holds(self.row(2, facts=facts)), facts)
        # Of an int there is no fact, and none that no row ahead tells.
        self.assertFalse(self.holds(self.row(6, facts=((2, "B"),))))
        self.assertFalse(self.holds(self.row(0, facts=((0, "B"),))))

    def test_facts_of_rows_to_which_none_leads(self):
        view = ASK_ROWS[2][0]
        for facts, right in (((), True), (((0, "B"),), True), (((0, "E"),), True), (((1, "B"),), False), (((5, "B"),), False), (((0, "class"),), False),
                             (((0, "2B"),), False), (((0, 5),), False), (((0, "B"), (0, "E")), False)):
            self.assertEqual(self.holds(self.added(self.strip, (view, facts, OUT, None))), right, facts)

    def test_an_entry_has_no_facts(self):
        self.module = module_of(function_of(name="main"), function_of(name="f", params=(("of", "A"),), code=read_code("load 0 ; get A n ; show ; done")),
                                classes=(("A", None, (("n", "int"),), ()),))
        for facts, right in (((), True), (((0, "A"),), False)):
            self.assertEqual(self.holds((1, ((0, 0),), ((((1, 1, (r(0),), (r(0),)),), facts, OUT, None),))), right)

    def test_facts_go_along_with_moves_but_of_what_is_written(self):
        self.module = tree_module("new B ; new E ; read ; drop ; drop ; drop ; done")
        facts = ((0, "B"), (1, "E"))
        for pairs, sources, kept, right in (
            ((), (0, 1), facts, True), ((), (0, 1), facts[:1], True), ((), (0, 1), (), True), (((2, r(1)),), (0, 2), facts[:1], True),
            (((2, r(1)),), (0, 2), ((0, "B"), (2, "E")), False), (((1, r(1)),), (0, 1), facts, False), (((1, r(1)),), (0, 1), facts[:1], True),
            (((0, r(1)), (1, r(0))), (1, 0), facts, False), (((0, r(1)), (1, r(0))), (1, 0), (), True),
        ):
            rows = ((((0, 0, (), ()),), (), ("do", 0), 1), (((0, 1, (), (r(0),)),), facts[:1], ("do", 1), 2),
                    (((0, 2, (), (r(0), r(1))),), facts, ("moves", pairs), 3), (((0, 2, (), (r(sources[0]), r(sources[1]))),), kept, ("do", 7), 4),
                    (((0, 6, (), ()),), (), ("done",), None))
            self.assertEqual(self.holds((0, ((0, 0),), rows)), right, (pairs, kept))

    def test_two_facts_ascend(self):
        self.module = tree_module("new A ; new D ; drop ; drop ; done")
        def rows(facts):
            return ((((0, 0, (), ()),), (), ("do", 4), 1), (((0, 1, (), (r(4),)),), ((4, "A"),), ("do", 2), 2),
                    (((0, 4, (), ()),), (), ("done",), None))
        self.assertTrue(self.holds((0, ((0, 0),), rows(()))))
        self.module = tree_module("new A ; new D ; read ; drop ; drop ; drop ; done")
        for facts, right in ((((2, "D"), (4, "A")), True), (((4, "A"), (2, "D")), False), (((4, "A"),), True), (((2, "A"), (4, "A")), False)):
            rows = ((((0, 0, (), ()),), (), ("do", 4), 1), (((0, 1, (), (r(4),)),), ((4, "A"),), ("do", 2), 2),
                    (((0, 2, (), (r(4), r(2))),), facts, ("do", 0), 3), (((0, 6, (), ()),), (), ("done",), None))
            self.assertEqual(self.holds((0, ((0, 0),), rows)), right, facts)

    def test_a_fact_goes_when_its_register_is_written(self):
        self.assertFalse(self.holds(self.with_rows({1: ASK_ROWS[1][:2] + (("do", 0), 2)})))
        self.module = tree_module("new B ; as A ; get A n ; drop ; done")
        for facts, right in (((), True), (((0, "B"),), False)):
            rows = ((((0, 0, (), ()),), (), ("do", 0), 1), (((0, 1, (), (r(0),)),), ((0, "B"),), ("do", 0), 2),
                    (((0, 2, (), (r(0),)),), facts, ("do", 1), 3), (((0, 4, (), ()),), (), ("done",), None))
            self.assertEqual(self.holds((0, ((0, 0),), rows)), right)
        self.module = tree_module("new B ; drop ; nil ; as A ; get A n ; drop ; done")
        for facts, right in (((), True), (((0, "B"),), False)):
            rows = ((((0, 0, (), ()),), (), ("do", 0), 1), (((0, 3, (), (NIL,)),), (), ("do", 0), 2),
                    (((0, 4, (), (r(0),)),), facts, ("do", 1), 3), (((0, 6, (), ()),), (), ("done",), None))
            self.assertEqual(self.holds((0, ((0, 0),), rows)), right)

    def test_call_in_the_place_of_enter(self):
        row = ASK_ROWS[2][:2] + (("call", 1), 4)
        self.assertTrue(self.holds(self.with_rows({2: row})))
        self.assertTrue(self.holds(self.with_rows({1: ASK_ROWS[1][:1] + ((),) + ASK_ROWS[1][2:],
                                                   2: ASK_ROWS[2][:1] + ((), ("call", 1), 4), 4: ASK_ROWS[4][:1] + ((),) + ASK_ROWS[4][2:],
                                                   5: ASK_ROWS[5][:1] + ((),) + ASK_ROWS[5][2:]})))
        for number in (None, 0, 200, True):
            self.assertFalse(self.holds(self.with_rows({2: ASK_ROWS[2][:2] + (("call", number), 4)})))

    def guarded(self, name, *more):
        """The fact is not told by new, but by a guard."""
        bare = {index: ASK_ROWS[index][:1] + ((),) + ASK_ROWS[index][2:] for index in (1,)}
        bare[1] = bare[1][:3] + (8,)
        guard = (ASK_ROWS[2][0], (), ("guard", name), 2)
        return self.with_rows(bare, guard, *more)

    def test_guards(self):
        self.assertTrue(self.holds(self.guarded("B")))
        for name in ("A", "D", "C", "E", "Gone", "class", None, 0):
            self.assertFalse(self.holds(self.guarded(name)), name)
        # A guard that is missed goes out: its class need not be that of the object.
        rows = {index: ASK_ROWS[index][:1] + (((0, "E"),) if 1 < index < 6 else (),) + ASK_ROWS[index][2:] for index in range(1, 6)}
        rows[1] = rows[1][:3] + (8,)
        self.assertTrue(self.holds(self.with_rows(rows, (ASK_ROWS[2][0], (), ("guard", "E"), 2))))
        # Of a register with a fact there is none.
        strip = self.guarded("B")
        rows = list(strip[2])
        rows[8] = (ASK_ROWS[2][0], ASK_FACT, ("guard", "B"), 2)
        rows[1] = rows[1][:1] + (ASK_FACT,) + rows[1][2:]
        self.assertFalse(self.holds((0, ((0, 0),), tuple(rows))))

    def test_the_class_of_a_guard(self):
        """It is one at or below the ask's; what comes of it need not be used."""
        for name, right in (("A", True), ("B", True), ("C", True), ("E", True), ("D", False), ("Gone", False)):
            rows = {index: ASK_ROWS[index][:1] + ((),) + ASK_ROWS[index][2:] for index in (1, 4, 5)}
            rows[1] = rows[1][:3] + (8,)
            rows[2] = (ASK_ROWS[2][0], ((0, name),), ("call", 1), 4)
            rows[3] = (ASK_ROWS[7][0], (), OUT, None)
            self.assertEqual(self.holds(self.with_rows(rows, (ASK_ROWS[2][0], (), ("guard", name), 2))), right, name)

    def test_nil_is_not_guarded_and_not_entered(self):
        self.module = tree_module("nil ; read ; ask A m ; show ; done")
        start = (((0, 1, (), (NIL,)),), (), ("do", 0), 1)
        view = ((0, 2, (), (NIL, r(0))),)
        end = ((((0, 3, (), (r(0),)),), (), ("do", None), 3), (((0, 4, (), ()),), (), ("done",), None))
        self.assertTrue(self.holds((0, ((0, 0),), (start, (view, (), ("call", 0), 2)) + end)))
        for deed in (("guard", "A"), ("guard", "B"), ("enter",)):
            self.assertFalse(self.holds((0, ((0, 0),), (start, (view, (), deed, 4)) + end + ((view, (), ("call", 0), 2),))), deed)

    def test_leave_is_of_a_done_alone(self):
        for text, right in (("load 0 ; done", True), ("load 0 ; show ; load 0 ; done", False)):
            self.module = module_of(function_of(name="main", code=read_code("read ; call 1 ; show ; done")),
                                    function_of(name="f", params=("int",), result="int", code=read_code(text)))
            rows = ((((0, 0, (), ()),), (), ("do", 0), 1), (((0, 1, (), (r(0),)),), (), ("enter",), 2),
                    (((0, 2, (), ()), (1, 1, (r(0),), (r(0),))), (), ("leave",), 3), (((0, 2, (), (r(0),)),), (), ("do", None), 4),
                    (((0, 3, (), ()),), (), ("done",), None))
            self.assertEqual(self.holds((0, ((0, 0),), rows)), right)

    def test_behind_a_guard_stands_neither_guard_nor_moves(self):
        moves = (ASK_ROWS[2][0], ASK_FACT, ("moves", ()), 2)
        strip = self.guarded("B", moves)
        rows = list(strip[2])
        rows[8] = rows[8][:3] + (9,)
        self.assertFalse(self.holds((0, ((0, 0),), tuple(rows))))
        rows[9] = (ASK_ROWS[2][0], (), ("guard", "B"), 2)
        self.assertFalse(self.holds((0, ((0, 0),), tuple(rows))))
        rows[9] = (ASK_ROWS[2][0], ASK_FACT, OUT, None)
        self.assertTrue(self.holds((0, ((0, 0),), tuple(rows))))

    def test_guards_at_get_and_put_and_nowhere_else(self):
        for index, name, right in ((5, "B", True), (5, "D", False), (1, "B", False), (4, "B", False), (7, "B", False), (0, "B", False)):
            rows = {at: ASK_ROWS[at][:1] + ((),) + ASK_ROWS[at][2:] for at in range(index, 6)}
            guard = (ASK_ROWS[index][0], (), ("guard", name), 8)
            rows[index] = guard
            more = (ASK_ROWS[index][0], ASK_FACT if index == 5 else ()) + ASK_ROWS[index][2:]
            self.assertEqual(self.holds(self.with_rows(rows, more)), right, (index, name))
        self.module = tree_module("new B ; int 5 ; put A n ; done")
        rows = ((((0, 0, (), ()),), (), ("do", 7), 1), (((0, 2, (), (r(7), n(5))),), (), ("guard", "B"), 2),
                (((0, 2, (), (r(7), n(5))),), ((7, "B"),), ("do", None), 3), (((0, 3, (), ()),), (), ("done",), None))
        self.assertTrue(self.holds((0, ((0, 0),), rows)))

    def test_enter(self):
        # The method is that of the fact's class, its locals are what is handed in.
        for frame in ((1, 1, (r(0), r(1)), (r(1),)), (2, 1, (r(1), r(0)), (r(0),)), (2, 0, (r(0), r(1)), ()), (2, 1, (r(0), r(0)), (r(0),))):
            rows = {3: ((ASK_ROWS[3][0][0], frame),) + ASK_ROWS[3][1:]}
            self.assertFalse(self.holds(self.with_rows(rows)), frame)
        # Without a fact it is not told which is meant.
        rows = {index: ASK_ROWS[index][:1] + ((),) + ASK_ROWS[index][2:] for index in range(1, 6)}
        self.assertFalse(self.holds(self.with_rows(rows)))

    def test_leave_and_done(self):
        for deed, behind in ((("done",), None), (("leave",), None), (("leave",), 5), (("do", 1), 4), (("call", 1), 4)):
            self.assertFalse(self.holds(self.row(3, deed=deed, behind=behind)))
        self.assertFalse(self.holds(self.row(7, deed=("leave",), behind=0)))
        for index in range(len(ASK_ROWS)):
            self.assertTrue(self.holds(self.row(index, deed=OUT, behind=None)))

    def test_a_fact_tells_the_method_also_where_a_class_above_has_it(self):
        self.module = tree_module("new E ; int 4 ; ask A m ; show ; done")
        rows = ((((0, 0, (), ()),), (), ("do", 0), 1), (((0, 2, (), (r(0), n(4))),), ((0, "E"),), ("enter",), 2),
                (((0, 3, (), ()), (2, 1, (r(0), n(4)), (n(4),))), (), ("leave",), 3), (((0, 3, (), (n(4),)),), (), ("do", None), 4),
                (((0, 4, (), ()),), (), ("done",), None))
        self.assertTrue(self.holds((0, ((0, 0),), rows)))

    def test_no_register_is_both_a_reference_and_none(self):
        self.module = tree_module("read ; nil ; as A ; drop ; drop ; done")
        rows = ((((0, 0, (), ()),), (), ("do", 0), 1), (((0, 2, (), (r(0), NIL)),), (), ("do", 1), 2), (((0, 5, (), ()),), (), ("done",), None))
        self.assertTrue(self.holds((0, ((0, 0),), rows)))
        extra = (((0, 2, (), (r(0), r(0))),), (), OUT, None)
        self.assertFalse(self.holds((0, ((0, 0),), rows + (extra,))))
        extra = (((0, 2, (), (r(0), r(1))),), (), OUT, None)
        self.assertTrue(self.holds((0, ((0, 0),), rows + (extra,))))
        self.module = tree_module("truth true ; text a ; nil ; read ; drop ; drop ; drop ; drop ; done")
        rows = ((((0, 1, (), (("truth", True),)),), (), ("do", 0), 1), (((0, 3, (), (("truth", True), r(0), NIL)),), (), ("do", 1), 2),
                (((0, 8, (), ()),), (), ("done",), None))
        for sources, right in (((r(0), r(1), r(1)), True), ((r(0), r(0), r(1)), False), ((r(0), r(1), r(0)), False), ((r(0), r(1), NIL), True)):
            self.assertEqual(self.holds((0, ((0, 0),), rows + ((((0, 3, (), sources),), (), OUT, None),))), right, sources)

    def test_what_is_mixed_does_not_count(self):
        self.module = tree_module("read ; truth true ; if 5 ; int 1 ; jump 6 ; truth false ; text a ; drop ; drop ; drop ; done")
        start = (((0, 0, (), ()),), (), ("do", 0), 1), (((0, 6, (), (r(0), ("truth", False))),), (), ("do", 1), 2), (((0, 10, (), ()),), (), ("done",), None)
        self.assertTrue(self.holds((0, ((0, 0),), start)))
        for number, right in ((0, True), (1, True)):
            extra = (((0, 6, (), (r(0), r(number))),), (), OUT, None)
            self.assertEqual(self.holds((0, ((0, 0),), start + (extra,))), right)


# The loop leaves nil on the stack, which is in a register behind the entry 1; what is done with it follows the if.
NIL_LOOP = "nil ; read ; int 0 ; less ; if 1 ; "
NIL_ENTRIES = ((0, 0), (1, 4))


def nil_loop_rows(place, *frame):
    """The rows 0 to 6 of it; behind the if comes the row 7 at this place, with r(0) and the frame on the stack."""
    return (
        (((0, 1, (), (NIL,)),), (), ("do", 0), 1), (((0, 3, (), (NIL, r(0), n(0))),), (), ("do", 1), 2),
        (((0, 4, (), (NIL, r(1))),), (), ("if",), (3, 0)), (((0, place, (), (NIL, *[NIL if each == r(0) else each for each in frame])),), (), OUT, None),
        (((0, 1, (), (r(0),)),), (), ("do", 1), 5), (((0, 3, (), (r(0), r(1), n(0))),), (), ("do", 2), 6),
        (((0, 4, (), (r(0), r(2))),), (), ("if",), (7, 4)),
    )


class NilsOwnKind(Judging):
    """It is a reference kind, too (point 39): there are facts and guards of registers that stand at it."""

    def loop(self, code, rows, place, *frame):
        self.module = tree_module(NIL_LOOP + code)
        self.setUp()
        many = len(self.module[1][0][4])
        end = (((0, many - 1, (), ()),), (), ("done",), None)
        return (0, NIL_ENTRIES, nil_loop_rows(place, *frame) + tuple(rows) + (end,))

    def test_facts_of_rows_to_which_none_leads(self):
        self.module = tree_module("nil ; read ; truth true ; read ; drop ; drop ; drop ; drop ; done")
        rows = ((((0, 1, (), (NIL,)),), (), ("do", 0), 1), (((0, 3, (), (NIL, r(0), ("truth", True))),), (), ("do", 1), 2),
                (((0, 8, (), ()),), (), ("done",), None))
        view = ((0, 3, (), (r(0), r(1), r(2))),)
        for facts, right in (((), True), (((0, "A"),), True), (((0, "Gone"),), True), (((0, "class"),), False), (((1, "A"),), False),
                             (((2, "A"),), False), (((3, "A"),), False), (((0, "A"), (1, "A")), False), (((0, "A"), (0, "B")), False)):
            self.assertEqual(self.holds((0, ((0, 0),), rows + ((view, facts, OUT, None),))), right, facts)

    def test_there_is_no_fact_of_what_is_mixed(self):
        self.module = tree_module("truth true ; if 4 ; nil ; jump 5 ; int 1 ; read ; drop ; drop ; done")
        self.assertEqual(stack_kinds(self.module, 0)[5], ("mixed",))
        rows = ((((0, 5, (), (n(1),)),), (), ("do", 1), 1), (((0, 8, (), ()),), (), ("done",), None))
        for facts, right in (((), True), (((0, "A"),), False)):
            self.assertEqual(self.holds((0, ((0, 0),), rows + ((((0, 5, (), (r(0),)),), facts, OUT, None),))), right, facts)

    def test_a_fact_stays(self):
        fact = ((0, "B"),)
        asked = ((0, 7, (), (r(0), r(0), n(7))),)
        guard = (asked, (), ("guard", "B"), 8)

        def strip(*rows):
            return self.loop("twin ; int 7 ; ask A m ; read ; drop ; drop ; drop ; done", (guard,) + rows, 7, r(0), n(7))

        for number, kept, right in ((1, fact, True), (1, (), True), (1, ((0, "A"),), False), (1, ((0, "B"), (1, "B")), False), (0, fact, False), (0, (), False)):
            view = ((0, 8, (), (r(0), r(number))),)
            self.assertEqual(self.holds(strip((asked, fact, ("call", number), 9), (view, kept, ("do", 2), 10))), right, (number, kept))
        # By the fact B.m is meant.
        for function, right in ((2, True), (1, False)):
            opened = ((0, 8, (), (r(0),)), (function, 1, (r(0), n(7)), (n(7),)))
            rows = ((asked, fact, ("enter",), 9), (opened, fact, ("leave",), 10), (((0, 8, (), (r(0), n(7))),), fact, ("do", 2), 11))
            self.assertEqual(self.holds(strip(*rows)), right, function)

    def test_guards(self):
        for text, deed, frame in (("ask D m ; drop ; done", ("call", 1), ()), ("get A n ; drop ; done", ("do", 1), ()),
                                  ("int 3 ; put A n ; done", ("do", None), (n(3),)), ("int 3 ; ask A m ; drop ; done", ("call", 1), (n(3),))):
            place = 5 + len(frame)
            view = ((0, place, (), (r(0),) + frame),)
            for name in ("A", "B", "C", "D", "E", "Gone"):
                fits = name == "D" if "D" in text else name in ("A", "B", "C", "E")
                for told in ((0, name), (0, "Other"), (1, name)):
                    strip = self.loop(text, ((view, (), ("guard", name), 8), (view, (told,), deed, 9)), place, *frame)
                    self.assertEqual(self.holds(strip), fits and told == (0, name), (text, name, told))

    def test_nil_itself_is_not_guarded(self):
        asked, known = ((0, 5, (), (r(0),)),), ((0, 5, (), (NIL,)),)
        for deed, right in ((("call", 1), True), (("guard", "D"), False), (("enter",), False)):
            rows = ((asked, (), OUT, None), (known, (), deed, 9))
            self.assertEqual(self.holds(self.loop("ask D m ; drop ; done", rows, 5)), right, deed)


class Depths(Judging):
    """f0 calls f1, that f2, and so on up to f6, which ends; all without values."""

    module = module_of(*[function_of(name=f"f{index}", code=read_code(f"call {index + 1} ; done" if index < 6 else "done")) for index in range(7)])
    strip = (0, (), ())

    def opened(self, many):
        """Frames opened up to so many, the next call being called."""
        waits = [(index, 1, (), ()) for index in range(7)]
        rows = []
        for depth in range(many):
            view = tuple(waits[:depth]) + ((depth, 0, (), ()),)
            rows.append((view, (), ("enter",) if depth < many - 1 else ("call", None), depth + 1))
        for depth in range(many - 1, -1, -1):
            rows.append((tuple(waits[:depth + 1]), (), ("leave",) if depth > 0 else ("done",), len(rows) + 1 if depth > 0 else None))
        return (0, ((0, 0),), tuple(rows))

    def test_five_frames(self):
        for many in range(1, 6):
            self.assertTrue(self.holds(self.opened(many)), many)
        self.assertFalse(self.holds(self.opened(6)))

    def test_no_function_twice(self):
        self.module = module_of(function_of(name="main", code=read_code("call 0 ; done")))
        once = ((0, 0, (), ()),)
        twice = ((0, 1, (), ()), (0, 0, (), ()))
        self.assertTrue(self.holds((0, ((0, 0),), ((once, (), ("call", None), 1), (((0, 1, (), ()),), (), ("done",), None)))))
        self.assertFalse(self.holds((0, ((0, 0),), ((once, (), ("enter",), 1), (twice, (), OUT, None)))))
        self.assertFalse(self.holds((0, ((0, 0),), ((once, (), OUT, None), (twice, (), OUT, None)))))
        self.assertTrue(self.holds((0, ((0, 0),), ((once, (), OUT, None), (once, (), OUT, None)))))

    def test_kinds_of_a_frame_that_waits_are_those_of_its_call(self):
        """Behind the call the value is mixed, as another way comes there with an int."""
        self.module = module_of(
            function_of(name="main", code=read_code("read ; int 0 ; less ; if 6 ; int 5 ; jump 8 ; new A ; call 1 ; drop ; done")),
            function_of(name="f", code=read_code("read ; show ; done")), classes=(("A", None, (), ()),))
        waits = (0, 8, (), (r(0),))
        rows = ((((0, 0, (), ()),), (), ("do", 0), 1), (((0, 2, (), (r(0), n(0))),), (), ("do", 0), 2), (((0, 3, (), (r(0),)),), (), ("if",), (7, 3)),
                (((0, 6, (), ()),), (), ("do", 0), 4), (((0, 7, (), (r(0),)),), (), ("enter",), 5), ((waits, (1, 0, (), ())), (), ("do", 1), 6),
                ((waits, (1, 1, (), (r(1),))), (), OUT, None), (((0, 9, (), ()),), (), ("done",), None))
        self.assertTrue(self.holds((0, ((0, 0),), rows)))
        extra = ((waits, (1, 1, (), (r(0),))), (), OUT, None)
        self.assertFalse(self.holds((0, ((0, 0),), rows + (extra,))))

    def test_what_is_set_no_more_is_dropped_as_the_callee_ends(self):
        self.module = module_of(
            function_of(name="main", own=("int",), code=read_code("read ; int 5 ; less ; if 7 ; read ; store 0 ; call 1 ; read ; show ; done")), function_of(name="f"))
        self.assertEqual(verify(self.module), None)
        u, waits = (None,), (0, 7, (r(1),), ())
        rows = ((((0, 0, u, ()),), (), ("do", 0), 1), (((0, 2, u, (r(0), n(5))),), (), ("do", 0), 2), (((0, 3, u, (r(0),)),), (), ("if",), (3, 6)),
                (((0, 4, u, ()),), (), ("do", 1), 4), (((0, 6, (r(1),), ()),), (), ("enter",), 5), ((waits, (1, 0, (), ())), (), ("leave",), 6),
                (((0, 7, u, ()),), (), ("do", 0), 7), (((0, 8, u, (r(0),)),), (), ("do", None), 8), (((0, 9, u, ()),), (), ("done",), None))
        self.assertTrue(self.holds((0, ((0, 0),), rows)))
        kept = rows[:5] + ((((0, 7, u, ()), (1, 0, (), ())), (), ("leave",), 6),) + rows[6:]
        self.assertFalse(self.holds((0, ((0, 0),), kept)))


class Words(Judging):
    """Which instruction a do does, with which operands."""

    def test_words(self):
        for text, operands, puts in (
            ("text ab", (), True), ("new A", (), True), ("read", (), True), ("int 2 ; row int", (n(2),), True), ("int 2 ; tell", (n(2),), True),
            ("nil ; size", (NIL,), True), ("nil ; int 0 ; sign", (NIL, n(0)), True), ("nil ; is A", (NIL,), True), ("nil ; as A", (NIL,), True),
            ("nil ; get A n", (NIL,), True), ("nil ; int 1 ; put A n", (NIL, n(1)), False), ("int 1 ; show", (n(1),), False),
            ("nil ; nil ; add", (NIL, NIL), True),
        ):
            self.module = tree_module(text + (" ; drop ; done" if puts else " ; done"))
            place = len(operands)
            end = (((0, place + (2 if puts else 1), (), ()),), (), ("done",), None)
            for number in (3, None):
                rows = ((((0, place, (), operands),), (), ("do", number), 1), end)
                self.assertEqual(self.holds((0, ((0, 0),), rows)), (number is None) != puts, (text, number))

    def test_reckoning_needs_a_register(self):
        for word in ("add", "sub", "mul", "div", "rem", "less", "same"):
            self.module = tree_module(f"read ; int 0 ; {word} ; drop ; done")
            rows = ((((0, 0, (), ()),), (), ("do", 0), 1), (((0, 2, (), (r(0), n(0))),), (), ("do", 0), 2), (((0, 4, (), ()),), (), ("done",), None))
            self.assertTrue(self.holds((0, ((0, 0),), rows)), word)
        for word in ("div", "rem"):
            self.module = tree_module(f"int 7 ; int 0 ; {word} ; drop ; done")
            view = ((0, 2, (), (n(7), n(0))),)
            self.assertTrue(self.holds((0, ((0, 0),), ((view, (), OUT, None),))))
            self.assertFalse(self.holds((0, ((0, 0),), ((view, (), ("do", 0), 1), (((0, 4, (), ()),), (), ("done",), None)))))

    def test_an_at_of_nil_s_own_kind_leads_nowhere(self):
        for text in ("nil ; int 0 ; at ; drop ; done", "nil ; int 0 ; at ; jump 3"):
            self.module = tree_module(text)
            view = ((0, 2, (), (NIL, n(0))),)
            self.assertTrue(self.holds((0, ((0, 0),), ((view, (), OUT, None),))))
            for number in (0, None):
                self.assertFalse(self.holds((0, ((0, 0),), ((view, (), ("do", number), 0),))))

    def test_an_if_of_a_constant_that_goes_back(self):
        self.module = tree_module("truth true ; if 0 ; done")
        view = ((0, 1, (), (("truth", True),)),)
        self.assertTrue(self.holds((0, ((0, 0),), ((view, (), OUT, None),))))
        rows = ((view, (), ("if",), (1, 0)), (((0, 2, (), ()),), (), ("done",), None))
        self.assertFalse(self.holds((0, ((0, 0),), rows)))
        self.assertTrue(self.holds((0, ((0, 0),), ((view, (), OUT, None),) + rows[1:])))

    def test_a_throw_is_done_by_going_out(self):
        self.module = tree_module("new B ; throw ; is B ; show ; done", catches=((0, 2, 2, "A"),))
        rows = ((((0, 0, (), ()),), (), ("do", 0), 1), (((0, 1, (), (r(0),)),), ((0, "B"),), OUT, None))
        self.assertTrue(self.holds((0, ((0, 0),), rows)))
        self.assertFalse(self.holds((0, ((0, 0),), rows[:1] + ((rows[1][0], (), ("do", None), 0),))))


del Judging

if __name__ == "__main__":
    unittest.main()
