"""Views, and their silent steps (points 36 and 37)."""

import unittest

from movedrun.errors import BadModule, BadView, NotVerified
from movedrun.verifier import set_locals, stack_kinds, verify
from movedrun.views import settled
from tests.modulebuilding import function_of, module_of, read_code, tree_module, with_code


def r(number):
    return ("r", number)


def n(number):
    return ("int", number)


def t(truth):
    return ("truth", truth)


NIL = ("nil",)


class Settling(unittest.TestCase):
    def settles(self, text, ahead, behind, own=("int", ("of", "A"))):
        """ahead and behind are (place, locals, stack) of main."""
        module = tree_module(text, own)
        self.assertEqual(verify(module), None)
        view = settled(module, ((0, *ahead),))
        self.assertEqual(view, ((0, *behind),))
        self.assertEqual(settled(module, view), view)

    def test_constants_loads_and_stores(self):
        unset = (None, None)
        self.settles("int 5 ; truth true ; nil ; text a ; drop ; drop ; drop ; drop ; done", (0, unset, ()), (3, unset, (n(5), t(True), NIL)))
        self.settles("int 5 ; store 0 ; nil ; store 1 ; load 0 ; load 1 ; text a ; drop ; drop ; drop ; done",
                     (0, unset, ()), (6, (n(5), NIL), (n(5), NIL)))
        self.settles("read ; store 0 ; load 0 ; load 0 ; twin ; drop ; add ; show ; done", (1, unset, (r(7),)), (6, (r(7), None), (r(7), r(7))))

    def test_what_is_reckoned_with_constants(self):
        for text, stack, found in (
            ("add", (n(2 ** 31 - 1), n(1)), n(-2 ** 31)), ("sub", (n(1), n(3)), n(-2)), ("mul", (n(65536), n(65536)), n(0)),
            ("div", (n(-7), n(2)), n(-3)), ("rem", (n(-7), n(2)), n(-1)), ("div", (n(-2 ** 31), n(-1)), n(-2 ** 31)),
            ("rem", (n(-2 ** 31), n(-1)), n(0)), ("less", (n(1), n(2)), t(True)), ("less", (n(2), n(2)), t(False)),
            ("same", (n(1), n(1)), t(True)), ("same", (n(1), n(2)), t(False)), ("same", (t(True), t(False)), t(False)),
            ("same", (t(False), t(False)), t(True)), ("same", (NIL, NIL), t(True)), ("not", (t(False),), t(True)), ("not", (t(True),), t(False)),
        ):
            with self.subTest(word=text, stack=stack):
                pushed = " ; ".join({"int": f"int {s[-1]}", "truth": f"truth {str(s[-1]).lower()}", "nil": "nil"}[s[0]] for s in stack)
                at = len(stack)
                self.settles(f"{pushed} ; {text} ; show ; done", (at, (None, None), stack), (at + 1, (None, None), (found,)))
                # A register among them and it is no silent step.
                for index in range(len(stack)):
                    other = stack[:index] + (r(3),) + stack[index + 1:]
                    self.settles(f"{pushed} ; {text} ; show ; done", (at, (None, None), other), (at, (None, None), other))

    def test_what_is_never_silent(self):
        for text, stack in (
            ("int 1 ; int 0 ; div", (n(1), n(0))), ("int 1 ; int 0 ; rem", (n(1), n(0))), ("nil ; nil ; add", (NIL, NIL)),
            ("nil ; size", (NIL,)), ("int 1 ; tell", (n(1),)), ("nil ; is A", (NIL,)), ("nil ; as A", (NIL,)), ("int 2 ; row int", (n(2),)),
            ("nil ; int 0 ; sign", (NIL, n(0))), ("nil ; get A n", (NIL,)), ("read", ()), ("text ab", ()), ("new A", ()),
        ):
            at = len(stack)
            self.settles(f"{text} ; drop ; done", (at, (None, None), stack), (at, (None, None), stack))
        for text, stack in (("nil ; throw", (NIL,)), ("int 1 ; show ; done", (n(1),)), ("done", ()), ("call 6 ; done", ()),
                            ("nil ; int 1 ; put A n ; done", (NIL, n(1))), ("nil ; nil ; ask A k ; done", (NIL, NIL))):
            self.settles(text, (len(stack), (None, None), stack), (len(stack), (None, None), stack))

    def test_jumps_and_ifs(self):
        unset = (None, None)
        self.settles("jump 2 ; done ; jump 3 ; done", (0, unset, ()), (3, unset, ()))
        self.settles("jump 1 ; jump 0", (0, unset, ()), (1, unset, ()))
        self.settles("jump 0", (0, unset, ()), (0, unset, ()))
        code = "truth true ; if 4 ; read ; drop ; read ; drop ; done"
        self.settles(code, (0, unset, ()), (4, unset, ()))
        self.settles(code, (1, unset, (t(False),)), (2, unset, ()))
        self.settles(code, (1, unset, (r(0),)), (1, unset, (r(0),)))
        # An if back is none, gone or not.
        for truth in (True, False):
            self.settles("truth true ; if 0 ; done", (1, unset, (t(truth),)), (1, unset, (t(truth),)))

    def test_what_is_set_no_more_is_dropped(self):
        text = "read ; int 0 ; less ; if 8 ; int 5 ; store 0 ; int 7 ; drop ; text a ; drop ; done"
        self.settles(text, (4, (None, None), ()), (8, (None, None), ()))
        text = "int 1 ; store 1 ; read ; int 0 ; less ; if 9 ; int 5 ; store 0 ; jump 9 ; text a ; drop ; done"
        self.settles(text, (6, (None, r(4)), ()), (9, (None, r(4)), ()), own=("int", "int"))

    def test_all_frames_but_the_last_stay(self):
        functions = (
            function_of(name="main", own=("int",), code=read_code("int 1 ; int 2 ; int 3 ; call 1 ; add ; add ; show ; done")),
            function_of(name="f", params=("int",), result="int", own=("int",), code=read_code("load 0 ; int 1 ; add ; store 1 ; load 1 ; done")),
        )
        module = module_of(*functions)
        self.assertEqual(verify(module), None)
        view = ((0, 4, (None,), (n(1), r(1))), (1, 0, (n(3), None), ()))
        self.assertEqual(settled(module, view), (view[0], (1, 5, (n(3), n(4)), (n(4),))))
        self.assertEqual(settled(module=module, view=view[:1] + ((1, 0, (r(0), None), ()),))[1], (1, 2, (r(0), None), (r(0), n(1))))


class Views(unittest.TestCase):
    """What is a view and what is none."""

    def setUp(self):
        text = (
            "int 1 ; store 0 ; new B ; int 2 ; truth true ; text a ; nil ; truth true ; if 11 ; int 1 ; jump 12 ; truth false ; "
            "call 6 ; drop ; drop ; drop ; drop ; drop ; int 7 ; ask A m ; drop ; done ; jump 22")
        self.module = tree_module(text, ("int", ("of", "B")))
        self.assertEqual(verify(self.module), None)
        self.assertEqual(stack_kinds(self.module, 0)[12], (("of", "B"), "int", "truth", "text", "nil", "mixed"))
        self.assertEqual(set_locals(self.module, 0)[12], (0,))

    def is_view(self, view):
        try:
            found = settled(self.module, view)
        except BadView:
            return False
        self.assertIsInstance(found, tuple)
        return True

    def at_call(self, slots=(r(0), None), stack=(r(1), r(2), r(3), r(4), r(5), r(6)), function=0, place=12):
        return ((function, place, slots, stack),)

    def test_form(self):
        self.assertTrue(self.is_view(self.at_call()))
        frame = self.at_call()[0]
        for view in (None, True, 5, "", (), [], [frame], (list(frame),), (frame[:3],), (frame + ((),),), frame,
                     ((0, 12, list(frame[2]), frame[3]),), ((0, 12, frame[2], list(frame[3])),)):
            self.assertFalse(self.is_view(view), view)
        for function in (-1, 8, None, True, False, "0"):
            self.assertFalse(self.is_view(self.at_call(function=function)))
        for place in (-1, 11, 14, 23, None, True, "12"):
            self.assertFalse(self.is_view(self.at_call(place=place)))

    def test_a_place_without_kinds(self):
        self.assertFalse(self.is_view(((0, 22, (r(0), None), ()),)))
        module = tree_module("nil ; int 0 ; at ; drop ; done")
        self.assertIsNone(stack_kinds(module, 0)[3])
        with self.assertRaises(BadView):
            settled(module, ((0, 3, (), (r(0),)),))

    def test_locals(self):
        for slots in ((n(1), None), (r(10 ** 9), None), (r(5), None)):
            self.assertTrue(self.is_view(self.at_call(slots=slots)))
        for slots in ((r(0), r(1)), (None, None), (None, r(1)), (r(0),), (r(0), None, None), (t(True), None), (NIL, None), (r(0), NIL)):
            self.assertFalse(self.is_view(self.at_call(slots=slots)), slots)

    def test_sources(self):
        words = (("nil",), ("int",), ("truth",), ("nil",), ("nil",), ("int", "truth", "nil"))
        for at, right in enumerate(words):
            for source in (n(0), n(-2 ** 31), n(2 ** 31 - 1), t(True), t(False), NIL, r(0), r(10 ** 12)):
                stack = tuple(source if index == at else r(index) for index in range(6))
                self.assertEqual(self.is_view(self.at_call(stack=stack)), source[0] in right + ("r",), (at, source))
        for source in (None, (), "r", ("r",), ("r", -1), ("r", True), ("r", None), ("r", 0, 0), ["r", 0], ("nil", 0), (0, "r"), ("x", 0), ("x", True), ("int",)):
            self.assertFalse(self.is_view(self.at_call(stack=(source,) + (r(0),) * 5)), source)
        for source in (n(2 ** 31), n(-2 ** 31 - 1), n(True), n(None), t(1), t(0), t(None), ("text", "a")):
            for at in range(6):
                stack = tuple(source if index == at else r(index) for index in range(6))
                self.assertFalse(self.is_view(self.at_call(stack=stack)), source)
        self.assertFalse(self.is_view(self.at_call(stack=(r(0),) * 5)))
        self.assertFalse(self.is_view(self.at_call(stack=(r(0),) * 7)))

    def test_frames_that_wait(self):
        waits = (0, 20, (r(0), None), ())
        for index, name in ((1, "A"), (2, "B")):
            method = (index, 0, (r(1), n(7)), ())
            self.assertTrue(self.is_view((waits, method)))
            self.assertFalse(self.is_view((waits,)), "its result is not there")
            self.assertFalse(self.is_view((method, waits)))
        # Methods that the ask cannot come to, places that are behind no call, and what was handed in still there.
        self.assertFalse(self.is_view((waits, (4, 0, (r(1),), ()))))
        self.assertFalse(self.is_view((waits, (7, 0, (r(1), r(2)), ()))))
        self.assertFalse(self.is_view(((0, 19, (r(0), None), (r(1), r(2))), (1, 0, (r(1), n(7)), ()))))
        self.assertFalse(self.is_view(((0, 0, (None, None), ()), (1, 0, (r(1), n(7)), ()))))
        self.assertFalse(self.is_view(((0, 20, (r(0), None), (r(1), r(2))), (1, 0, (r(1), n(7)), ()))))
        self.assertFalse(self.is_view(((0, 20, (r(0), r(0)), ()), (1, 0, (r(1), n(7)), ()))))
        self.assertTrue(self.is_view(((0, 13, (r(0), None), tuple(r(at) for at in range(1, 7))), (6, 0, (), ()))))

    def test_a_call_that_cannot_be_come_to(self):
        module = module_of(function_of(name="main", code=read_code("jump 2 ; call 1 ; done")), function_of(name="f"))
        self.assertEqual(verify(module), None)
        with self.assertRaises(BadView):
            settled(module, ((0, 2, (), ()), (1, 0, (), ())))

    def test_locals_of_a_frame_that_waits_are_those_of_its_call(self):
        main = function_of(name="main", own=("int",), code=read_code("read ; int 0 ; less ; if 7 ; int 5 ; store 0 ; call 1 ; done"))
        module = module_of(main, function_of(name="f"))
        self.assertEqual(verify(module), None)
        self.assertEqual(set_locals(module, 0)[6:], ((0,), ()))
        good = ((0, 7, (r(0),), ()), (1, 0, (), ()))
        self.assertEqual(settled(module, good), good)
        with self.assertRaises(BadView):
            settled(module, ((0, 7, (None,), ()), (1, 0, (), ())))

    def test_five_frames_and_a_function_twice(self):
        module = module_of(function_of(name="main", code=read_code("call 0 ; done")))
        frame = (0, 1, (), ())
        for many in range(1, 6):
            view = (frame,) * (many - 1) + ((0, 0, (), ()),)
            self.assertEqual(settled(module, view), view)
        with self.assertRaises(BadView):
            settled(module, (frame,) * 5 + ((0, 0, (), ()),))

    def test_modules_come_first(self):
        for module in (None, ((), (), 0, 0), [], True):
            with self.assertRaises(BadModule):
                settled(module, None)
        with self.assertRaises(NotVerified) as caught:
            settled(with_code(("drop",), ("done",)), None)
        self.assertEqual(caught.exception.what, ("short", 0, 0))


if __name__ == "__main__":
    unittest.main()
