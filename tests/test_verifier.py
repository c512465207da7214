"""verify: what is wrong first (points 15 to 18)."""

import unittest

from movedrun.compiler import compiled
from movedrun.errors import BadModule
from movedrun.verifier import verify
from tests.building import EXAMPLE
from tests.modulebuilding import OTHERS, TREE, WHOLE, class_of, function_of, module_of, tree_module, with_code

A, B, C, D, E = (("of", name) for name in "ABCDE")
ROW = ("row", "int")
NEWS = {"int": "int 1", "truth": "truth true", "text": "text a", "nil": "nil", "A": "new A", "B": "new B", "C": "new C",
        "E": "new E", "D": "new D", "row": "int 1; row int", "rowA": "int 1; row A", "rowB": "int 1; row B",
        "row row": "int 1; row row int"}
# Two ways meet behind it, with a value of each of two kinds.
MEETING = "truth true; if {0}; {1}; jump {2}; {3}; "


def meeting(first, second):
    """Code of which two ways meet, one with the first value, one with the second."""
    first, second = NEWS[first], NEWS[second]
    behind = 4 + first.count(";")
    return MEETING.format(behind, first, behind + second.count(";") + 1, second)


class Verifying(unittest.TestCase):
    def told(self, module, what):
        with self.subTest(module=repr(module)[:400]):
            self.assertEqual(verify(module), what)
            self.assertEqual(verify(module), what)

    def code(self, text, word, place=None, own=(), catches=()):
        """Of main of the tree; word None for what is let by."""
        self.told(tree_module(text, own, catches), word and (word, 0, place))

    def let(self, *texts, own=(), catches=()):
        for text in texts:
            self.code(text, None, None, own, catches)


class Whole(Verifying):
    def test_let_by(self):
        self.told(tree_module("done"), None)
        self.told(compiled(EXAMPLE), None)
        self.told(with_code(("done",)), None)

    def test_what_is_no_module(self):
        for thing in (None, True, 0, "", (), [], list(tree_module("done")), ((), (), -1), EXAMPLE):
            with self.assertRaises(BadModule):
                verify(thing)

    def test_argument_by_name(self):
        self.assertEqual(verify(module=tree_module("done")), None)
        self.assertEqual(verify(module=((), (), 0)), ("main", None, None))

    def test_forms(self):
        for module, told in ((WHOLE, "('class', None, None)"), (tree_module("nil"), "('end', 0, 0)")):
            self.assertEqual(repr(verify(module)), told)


class Classes(Verifying):
    def with_classes(self, *classes):
        return module_of(function_of(), classes=classes)

    def test_a_name_twice(self):
        self.told(self.with_classes(class_of(), class_of()), ("class", None, None))
        self.told(self.with_classes(class_of(), class_of("B", "A"), class_of("A", "B")), ("class", None, None))
        self.told(self.with_classes(class_of("a"), class_of("A")), None)

    def test_above_is_none_ahead(self):
        self.told(self.with_classes(class_of("A", "A")), ("class", None, None))
        self.told(self.with_classes(class_of("A", "B"), class_of("B")), ("class", None, None))
        self.told(self.with_classes(class_of("A", "Gone")), ("class", None, None))
        self.told(self.with_classes(class_of("B"), class_of("A", "B"), class_of("C", "B"), class_of("D", "A")), None)

    def test_kinds_of_fields(self):
        for kind, there in ((("of", "A"), True), (("of", "B"), True), (("of", "Gone"), False), (("row", ("of", "B")), True),
                            (("row", ("row", ("row", ("of", "Gone")))), False), ("text", True)):
            module = self.with_classes(class_of(fields=(("f", kind),)), class_of("B"))
            self.told(module, None if there else ("class", None, None))

    def test_kinds_of_heads(self):
        gone = ("row", ("of", "Gone"))
        for function in (function_of(params=("int", gone), code=(("nil",), ("jump", 0))),
                         function_of(result=gone), function_of(own=("int", gone))):
            self.told(module_of(function_of(), function), ("class", 1, None))
            self.told(module_of(function, function_of()), ("class", 0, None))
            self.told(module_of(function_of(), function_of(), function, function), ("class", 2, None))

    def test_places_of_code(self):
        for instruction in (("ask", "Gone", "m"), ("new", "Gone"), ("get", "Gone", "f"), ("put", "Gone", "f"), ("is", "Gone"),
                            ("as", "Gone"), ("row", ("of", "Gone")), ("row", ("row", ("row", ("of", "Gone"))))):
            self.told(with_code(("done",), instruction), ("class", 0, 1))
            self.told(module_of(function_of(), function_of(code=(instruction, ("done",)))), ("class", 1, 0))
            self.told(with_code(("done",), ("done",), instruction, instruction), ("class", 0, 2))

    def test_catches_are_told_at_their_begin(self):
        catches = ((7, 9, 9, "Gone"), (2, 0, 1, "Gone"), (1, 2, 2, "A"))
        classes = (class_of(),)
        code = (("done",),) * 3 + (("new", "Gone"),)
        self.told(module_of(function_of(catches=catches), classes=classes), ("class", 0, 2))
        self.told(module_of(function_of(catches=catches[:1]), classes=classes), ("class", 0, 7))
        self.told(module_of(function_of(code=code, catches=catches), classes=classes), ("class", 0, 2))
        self.told(module_of(function_of(code=code, catches=catches[:1]), classes=classes), ("class", 0, 3))

    def test_sequence_of_the_look(self):
        wrong = class_of(fields=(("f", ("of", "Gone")),))
        self.told(module_of(function_of(params=(("of", "Gone"),)), classes=(wrong,)), ("class", None, None))
        # A function's head is ahead of its code, and both are ahead of the next function.
        both = function_of(own=(("of", "Gone"),), code=(("new", "Gone"),))
        self.told(module_of(both), ("class", 0, None))
        self.told(module_of(function_of(code=(("nil",), ("new", "Gone"))), both), ("class", 0, 1))

    def test_ahead_of_all_other_looks(self):
        classes = (class_of("A", None, (("f", "int"), ("f", "int")), (("m", 99),)),)
        self.told((classes, (function_of(result="int", code=(("new", "Gone"),)),), 5), ("class", 0, 0))
        self.told((classes, (function_of(),), 5), ("field", None, None))


class Fields(Verifying):
    def test_fields(self):
        for classes, right in (
                ((class_of(fields=(("f", "int"), ("g", "int"))),), True),
                ((class_of(fields=(("f", "int"), ("f", "text"))),), False),
                ((class_of(fields=(("f", "int"),)), class_of("B", "A", (("f", "int"),))), False),
                ((class_of(fields=(("f", "int"),)), class_of("B", "A"), class_of("C", "B", (("f", "int"),))), False),
                ((class_of(fields=(("f", "int"),)), class_of("B", "A", (("g", "int"),))), True),
                ((class_of(fields=(("f", "int"),)), class_of("B", None, (("f", "int"),))), True),
                ((class_of(), class_of("B", "A", (("f", "int"),)), class_of("C", "A", (("f", "text"),))), True)):
            self.told(module_of(function_of(), classes=classes), None if right else ("field", None, None))

    def test_methods_of_one_name_in_a_class(self):
        methods = (("m", 1), ("m", 1))
        method = function_of("A.m", (("of", "A"),))
        self.told(module_of(function_of(), method, classes=(class_of(methods=methods),)), ("field", None, None))
        self.told(module_of(function_of(), method, classes=(class_of(methods=(("m", 1), ("o", 1))),)), None)
        self.told(module_of(function_of(), method, classes=(class_of(fields=(("m", "int"),), methods=(("m", 1),)),)), None)

    def test_ahead_of_methods_and_main(self):
        classes = (class_of("A", None, (), (("m", 99),)), class_of("B", None, (("f", "int"), ("f", "int"))))
        self.told((classes, (), 0), ("field", None, None))


class Methods(Verifying):
    def with_methods(self, first, second=None):
        """A has a method m, B below C below A has one, too, if there is a second function."""
        classes = (class_of("A", None, (), (("m", 1),)), class_of("C", "A"),
                   class_of("B", "C", (), () if second is None else (("m", 2),)))
        return module_of(function_of(), first, second or function_of(), classes=classes)

    def test_no_function_of_the_index(self):
        classes = (class_of(methods=(("m", 1),)),)
        self.told(module_of(function_of(), classes=classes), ("method", None, None))
        self.told(module_of(function_of(), function_of(params=(("of", "A"),)), classes=classes), None)
        self.told(((class_of(methods=(("m", 9999),)),), (function_of(),), 0), ("method", None, None))

    def test_the_first_param_is_the_class(self):
        for params, right in (((A,), True), ((), False), (("int",), False), ((("of", "B"),), False), ((C,), False),
                              (("int", A), False), ((A, "int"), True), ((("row", A),), False)):
            self.told(self.with_methods(function_of(params=params)), None if right else ("method", None, None))

    def test_overrides(self):
        nil = (("nil",), ("done",))
        first = function_of("A.m", (A, "int", B), A, code=nil)
        for params, result, right in (((B, "int", B), A, True), ((B, "int", A), A, False), ((B, "int"), A, False),
                                      ((B, "int", B, "int"), A, False), ((B, "int", B), B, False), ((B, "int", B), None, False),
                                      ((B, "text", B), A, False), ((A, "int", B), A, False)):
            second = function_of("x", params, result, code=nil if result else (("done",),))
            self.told(self.with_methods(first, second), None if right else ("method", None, None))

    def test_classes_beside_one_another_may_differ(self):
        classes = (class_of(), class_of("B", "A", (), (("m", 1),)), class_of("C", "A", (), (("m", 2),)))
        functions = (function_of(), function_of(params=(B,)), function_of(params=(C, "int")))
        self.told(module_of(*functions, classes=classes), None)

    def test_names_of_functions_are_free(self):
        self.told(self.with_methods(function_of("Gone.x", (A,))), None)
        self.told(module_of(function_of("f"), function_of("f")), None)

    def test_ahead_of_main(self):
        self.told(((class_of(methods=(("m", 5),)),), (), 0), ("method", None, None))


class Main(Verifying):
    def test_main(self):
        self.told(((), (), 0), ("main", None, None))
        self.told(((), (function_of(),), 1), ("main", None, None))
        self.told(((), (function_of(),), 9999), ("main", None, None))
        self.told(module_of(function_of(params=("int",))), ("main", None, None))
        self.told(module_of(function_of(result="int", code=(("int", 1), ("done",)))), ("main", None, None))
        self.told(module_of(function_of(params=("int",)), function_of("x"), main=1), None)
        self.told(module_of(function_of(own=("int",))), None)

    def test_ahead_of_code(self):
        self.told(((), (function_of(code=(("jump", 99),)),), 1), ("main", None, None))


class Functions(Verifying):
    def test_function_by_function(self):
        wrong = {"index": (("load", 0), ("done",)), "end": (("nil",),), "short": (("drop",), ("done",)),
                 "kind": (("nil",), ("not",), ("drop",), ("done",))}
        for word, code in wrong.items():
            for other, later in wrong.items():
                functions = (function_of(), function_of(code=code), function_of(code=later))
                place = 1 if word == "kind" else 0
                self.told(module_of(*functions), (word, 1, place))
        self.told(module_of(function_of(), function_of(code=wrong["kind"]), main=0), ("kind", 1, 1))

    def test_look_by_look(self):
        # Each is wrong at a place ahead of the one that is told: the looks come one behind the other.
        self.code("load 5; load 0; drop; drop; nil; not; jump 99", "index", 0, own=("int",))
        self.code("drop; load 0; nil; not; jump 99", "index", 4, own=("int",))
        self.code("drop; load 0; nil; not; drop", "end", 4, own=("int",))
        self.code("load 0; drop; nil; not; drop; drop; done", "short", 5, own=("int",))
        self.code("load 0; drop; nil; not; drop; done", "kind", 3, own=("int",))
        self.code("load 0; drop; nil; drop; done", "unset", 0, own=("int",))


class Indexes(Verifying):
    def test_locals(self):
        for word in ("load", "store"):
            self.code(f"done; {word} 2; done", "index", 1, own=("int", "int"))
            self.code(f"done; {word} 1; done", None, own=("int", "int"))
            self.code(f"done; {word} 0; done", "index", 1)
            self.code(f"done; {word} 9999; done", "index", 1, own=("int",) * 20)
        both = function_of(params=("int",), own=("int",), code=(("load", 0), ("store", 1), ("load", 1), ("drop",), ("done",)))
        self.told(module_of(function_of(), both), None)
        self.told(module_of(function_of(), both[:4] + ((("done",), ("load", 2), ("done",)), ())), ("index", 1, 1))

    def test_functions(self):
        self.code("done; call 8; done", "index", 1)
        self.code("done; call 7; done", None)
        self.code("call 0; done", None)

    def test_fields(self):
        for word in ("get", "put"):
            for names, right in (("A n", True), ("B n", True), ("E b", True), ("A b", False), ("C b", False), ("D n", False),
                                 ("A gone", False), ("A m", False)):
                self.code(f"done; {word} {names}; done", None if right else "index", 1)

    def test_methods(self):
        for names, right in (("A m", True), ("C m", True), ("E k", True), ("D m", True), ("D k", False), ("A n", False),
                             ("A gone", False)):
            self.code(f"done; ask {names}; done", None if right else "index", 1)

    def test_places(self):
        for word in ("jump", "if"):
            self.code(f"done; {word} 3; done", "index", 1)
            self.code(f"done; {word} 2; done", None)
            self.code(f"done; {word} 9999; done", "index", 1)

    def test_catches(self):
        for catch, place in (((0, 1, 1), None), ((0, 2, 3), None), ((1, 1, 2), 1), ((2, 1, 3), 2), ((0, 5, 3), 0), ((0, 4, 4), 0),
                             ((1, 4, 3), 1), ((1, 2, 4), 1), ((1, 3, 2), 1), ((1, 2, 1), 1), ((0, 3, 3), None), ((7, 8, 9), 7),
                             ((9999, 9999, 9999), 9999), ((1, 3, 3), None)):
            module = tree_module("nil; drop; done; throw", (), (catch + ("A",),))
            self.told(module, None if place is None else ("index", 0, place))

    def test_the_least_place(self):
        catches = ((3, 3, 3, "A"), (2, 0, 0, "A"))
        self.code("done; done; done; load 9; done", "index", 2, catches=catches)
        self.code("done; load 9; done; jump 9; done", "index", 1, catches=catches)
        self.code("done; done; done; load 9; done", "index", 3, catches=catches[:1])

    def test_what_cannot_be_come_to_is_looked_at(self):
        self.code("jump 2; load 7; done", "index", 1)
        self.code("jump 2; get A gone; done", "index", 1)


class Ends(Verifying):
    def test_the_last_instruction(self):
        for last in ("nil", "truth true; if 0", "int 1; drop", "call 6", "done; read; drop"):
            self.code("done; " + last, "end", last.count(";") + 1)
        for last in ("jump 0", "done", "throw"):
            self.code("done; " + last, None)
        self.code("call 6", "end", 0)


class Heights(Verifying):
    def test_short(self):
        for code in ("drop", "twin", "not", "if 0", "store 0", "get A n", "row int", "size", "tell", "is A", "as A", "throw",
                     "show"):
            self.code(code + "; done", "short", 0, own=("int",))
        for code in ("add", "sub", "mul", "div", "rem", "less", "same", "put A n", "at", "sign", "call 5", "call 7", "ask A m",
                     "ask A k", "set"):
            self.code("nil; " + code + "; done", "short", 1)
        self.code("nil; nil; set; done", "short", 2)
        self.code("ask D m; done", "short", 0)
        self.told(module_of(function_of(), function_of(result="int")), ("short", 1, 0))

    def test_height_at_done(self):
        self.code("nil; done", "height", 1)
        self.code("nil; nil; nil; done", "height", 3)
        for many, right in ((1, True), (2, False), (3, False)):
            code = (("int", 1),) * many + (("done",),)
            self.told(module_of(function_of(), function_of(result="int", code=code)), None if right else ("height", 1, many))

    def test_what_each_leaves(self):
        for text, many in (("int 1", 1), ("truth true", 1), ("text a", 1), ("nil", 1), ("int 1; store 0; load 0", 1),
                           ("nil; drop", 0), ("nil; twin", 2), ("int 1; int 1; add", 1), ("int 1; int 1; less", 1),
                           ("truth true; not", 1), ("call 6", 0), ("int 1; nil; call 5", 1), ("nil; nil; call 7", 0),
                           ("new A; int 1; ask A m", 1), ("nil; nil; ask A k", 0), ("nil; ask D m", 1), ("new A", 1),
                           ("nil; get A n", 1), ("nil; int 1; put A n", 0), ("int 1; row int", 1), ("nil; int 1; at", 1),
                           ("int 1; row int; int 0; int 1; set", 0), ("nil; size", 1), ("nil; int 1; sign", 1),
                           ("int 1; tell", 1), ("nil; is A", 1), ("nil; as A", 1), ("int 1; show", 0), ("read", 1),
                           ("truth true; if {0}", 0), ("nil; nil; same", 1)):
            text = text.format(text.count(";") + 1)
            drops = "; drop" * many
            self.code(text + drops + "; done", None, own=("int",))
            # What can be come to behind an at of nil's own kind counts here, too.
            place = (text + drops).count(";") + 1
            self.code(text + drops + "; drop; done", "short", place, own=("int",))
            self.code(text + drops + "; nil; done", "height", place + 1, own=("int",))

    def test_a_place_with_two_heights(self):
        self.code("truth true; if 3; nil; done", "height", 3)
        self.code("truth true; if 4; nil; drop; nil; drop; done", None)
        self.code("truth true; if 2; nil; drop; truth true; if 3; done", "short", 3)
        self.code("nil; drop; truth true; if 6; nil; nil; nil; throw", "height", 6)

    def test_tall(self):
        ints = "; ".join(["int 1"] * 160)
        self.code(ints + "; drop" * 160 + "; done", None)
        self.code(ints + "; int 1" + "; drop" * 161 + "; done", "tall", 160)
        self.code(ints + "; twin" + "; drop" * 161 + "; done", "tall", 160)
        self.code(ints + "; drop; twin" + "; drop" * 160 + "; done", None)
        self.code(ints + "; read; throw", "tall", 160)
        self.code(ints + "; call 6" + "; drop" * 160 + "; done", None)
        self.code(ints + "; new A; throw", "tall", 160)
        # No height above is given on: nothing behind is come to.
        self.code(ints + "; int 1; done", "tall", 160)

    def test_the_least_place_and_at_one_place_the_first_word(self):
        # Round and round it grows: at its first place it is tall, and has many heights.
        self.code("int 1; jump 0", "tall", 0)
        self.code("nil; drop; int 1; int 1; drop; jump 2", "height", 2)
        self.code("nil; twin; jump 1", "tall", 1)
        # It shrinks: the drop is short at last.
        self.code("nil; nil; drop; jump 2", "short", 2)
        self.code("nil; nil; nil; drop; truth true; if 3; done", "short", 3)
        self.code("drop; nil; done", "short", 0)
        self.code("nil; truth true; if 4; nil; drop; drop; done", "height", 4)
        self.code("truth true; if 4; nil; nil; drop; done", "short", 4)
        self.code("truth true; if 4; nil; drop; done; drop; done", None)

    def test_what_is_not_enough_is_not_given_on(self):
        self.code("truth true; if 4; nil; nil; drop; jump 6; done", "short", 4)
        self.code("drop; drop; drop; done", "short", 0)
        # Nothing at all is given on to the done, which is at a lower place.
        self.code("jump 2; done; drop; jump 1", "short", 2)

    def test_what_cannot_be_come_to(self):
        self.let("jump 3; drop; drop; done", "done; set; done", "jump 2; jump 1; done", "done; nil; nil; done")

    def test_catches(self):
        self.let("nil; throw; drop; done", catches=((0, 2, 2, "A"),))
        self.code("nil; throw; done", "height", 2, catches=((0, 2, 2, "A"),))
        self.code("nil; throw; drop; drop; done", "short", 3, catches=((1, 2, 2, "A"),))
        # To has one value, however many there are at the throw.
        self.let("nil; nil; nil; throw; drop; done", catches=((3, 4, 4, "A"),))
        # It is a way in also where nothing is thrown.
        self.code("nil; drop; done; done", "height", 3, catches=((0, 1, 3, "A"),))
        self.code("jump 1; done", "height", 1, catches=((0, 1, 1, "A"),))

    def test_a_catch_whose_range_cannot_be_come_to(self):
        self.let("jump 3; nil; throw; done; drop; drop; done", catches=((1, 3, 4, "A"),))
        self.code("jump 3; nil; throw; done; drop; drop; done", "short", 5, catches=((1, 4, 4, "A"),))
        # What is thrown behind what is caught.
        self.code("nil; throw; throw; drop; drop; done", "short", 4, catches=((0, 2, 2, "A"), (2, 3, 3, "A")))
        self.let("nil; throw; throw; drop; done", catches=((0, 2, 2, "A"), (2, 3, 3, "A")))


class Kinds(Verifying):
    def taking(self, instruction, let, ahead="", behind=""):
        """Which kinds the last one of some instructions lets as the value that is put right ahead of them."""
        for kind, value in NEWS.items():
            text = f"{ahead}{value}; {instruction}"
            place = text.count(";")
            text += behind + "; done"
            self.code(text, None if kind in let else "kind", place, own=("int", A, ROW, "text", "truth"))

    def test_store(self):
        self.taking("store 0", ["int"])
        self.taking("store 1", ["nil", "A", "B", "C", "E"])
        self.taking("store 2", ["nil", "row"])
        self.taking("store 3", ["nil", "text"])
        self.taking("store 4", ["truth"])

    def test_drop_and_twin(self):
        self.taking("drop", NEWS)
        self.taking("twin", NEWS, behind="; drop; drop")

    def test_truths(self):
        self.taking("not", ["truth"], behind="; drop")
        for kind, value in NEWS.items():
            place = value.count(";") + 1
            self.code(f"{value}; if {place + 1}; done", None if kind == "truth" else "kind", place)

    def test_ints(self):
        for word in ("sub", "mul", "div", "rem", "less"):
            self.taking(word, ["int"], "int 1; ", "; drop")
            for kind, value in NEWS.items():
                self.code(f"{value}; int 1; {word}; drop; done", None if kind == "int" else "kind", value.count(";") + 2)
        self.taking("row int", ["int"], behind="; drop")
        self.taking("tell", ["int"], behind="; drop")

    def test_add(self):
        for first, value in NEWS.items():
            for second, other in NEWS.items():
                right = first == second == "int" or first in ("text", "nil") and second in ("text", "nil")
                place = (value + other).count(";") + 2
                self.code(f"{value}; {other}; add; drop; done", None if right else "kind", place)

    def test_what_add_gives(self):
        for values, kind in (("int 1; int 2", "int"), ("text a; text b", "text"), ("nil; nil", "text"), ("text a; nil", "text"),
                             ("nil; text a", "text")):
            self.code(values + "; add; store 0; done", None if kind == "int" else "kind", 3, own=("int",))
            self.code(values + "; add; store 0; done", None if kind == "text" else "kind", 3, own=("text",))

    def test_same(self):
        lines = {"A": "A", "B": "AB", "C": "AC", "E": "ABE", "D": "D"}
        for first, value in NEWS.items():
            for second, other in NEWS.items():
                plain = first in ("int", "truth") or second in ("int", "truth")
                right = first == second or not plain and "nil" in (first, second)
                right = right or second in lines.get(first, "") or first in lines.get(second, "")
                place = (value + other).count(";") + 2
                self.code(f"{value}; {other}; same; drop; done", None if right else "kind", place)

    def test_call(self):
        for kind, value in NEWS.items():
            place = value.count(";") + 2
            self.code(f"{value}; nil; call 5; drop; done", None if kind == "int" else "kind", place)
            self.code(f"{value}; nil; call 7; done", None if kind in ("text", "nil") else "kind", place)
        self.taking("call 5", ["nil", "A", "B", "C", "E"], "int 1; ", "; drop")
        self.taking("call 7", ["nil", "row"], "nil; ")

    def test_ask(self):
        for name, let in (("A", ["nil", "A", "B", "C", "E"]), ("B", ["nil", "B", "E"]), ("C", ["nil", "C"]),
                          ("E", ["nil", "E"]), ("D", ["nil", "D"])):
            for kind, value in NEWS.items():
                rest = "" if name == "D" else "int 1; "
                place = value.count(";") + (1 if name == "D" else 2)
                # An ask wants an object of the class that it names, wherever the method is written.
                self.code(f"{value}; {rest}ask {name} m; drop; done", None if kind in let else "kind", place)
        self.taking("ask A k", ["nil", "B", "E"], "new A; ")
        self.taking("ask E m", ["int"], "nil; ", "; drop")

    def test_done(self):
        for result, let in (("int", ["int"]), ("truth", ["truth"]), ("text", ["text", "nil"]), (A, ["A", "B", "C", "E", "nil"]),
                            (B, ["B", "E", "nil"]), (ROW, ["row", "nil"]), (("row", A), ["rowA", "nil"])):
            for kind, value in NEWS.items():
                code = tree_module(value + "; done")[1][0][4]
                functions = (function_of(), *OTHERS, function_of("x", (), result, code=code))
                place = value.count(";") + 1
                self.told((TREE, functions, 0), None if kind in let else ("kind", 8, place))

    def test_get_and_put(self):
        self.taking("get A n", ["nil", "A", "B", "C", "E"], behind="; drop")
        self.taking("get B n", ["nil", "B", "E"], behind="; drop")
        self.taking("put A n", ["int"], "nil; ")
        self.taking("put A next", ["nil", "A", "B", "C", "E"], "nil; ")
        self.taking("put E b", ["nil", "B", "E"], "nil; ")
        self.taking("put A r", ["nil", "row"], "nil; ")
        for kind, value in NEWS.items():
            right = kind in ("nil", "A", "B", "C", "E")
            self.code(f"{value}; int 1; put A n; done", None if right else "kind", value.count(";") + 2)

    def test_at(self):
        self.taking("at", ["int"], "int 1; row int; ", "; drop")
        self.taking("at", ["int"], "nil; ", "; drop")
        for kind, value in NEWS.items():
            right = kind == "nil" or kind.startswith("row")
            self.code(f"{value}; int 0; at; drop; done", None if right else "kind", value.count(";") + 2)

    def test_set(self):
        for kind, value in NEWS.items():
            self.code(f"{value}; int 0; int 1; set; done", None if kind == "row" else "kind", value.count(";") + 3)
        self.taking("int 1; set", ["int"], "int 1; row int; ")
        self.taking("set", ["int"], "int 1; row int; int 0; ")
        self.taking("set", ["nil", "A", "B", "C", "E"], "int 1; row A; int 0; ")
        self.taking("set", ["nil", "row"], "int 1; row row int; int 0; ")
        # A nil row lets none.
        self.taking("set", [], "nil; int 0; ")

    def test_size_sign_show_throw(self):
        self.taking("size", ["text", "nil", "row", "rowA", "rowB", "row row"], behind="; drop")
        self.taking("sign", ["int"], "text a; ", "; drop")
        self.taking("show", ["int", "truth", "text", "nil"])
        for kind, value in NEWS.items():
            self.code(f"{value}; int 0; sign; drop; done", None if kind in ("text", "nil") else "kind", value.count(";") + 2)
            right = kind in ("nil", "A", "B", "C", "D", "E")
            self.code(f"{value}; throw", None if right else "kind", value.count(";") + 1)

    def test_is_and_as(self):
        for word in ("is", "as"):
            for name, let in (("A", "ABCE"), ("B", "ABE"), ("C", "AC"), ("E", "ABE"), ("D", "D")):
                self.taking(f"{word} {name}", [*let, "nil"], behind="; drop")

    def test_what_each_gives(self):
        for text, kind in (("int 1", "int"), ("read", "int"), ("text a; size", "int"), ("nil; int 0; sign", "int"),
                           ("int 1; int 1; sub", "int"), ("int 1; int 1; mul", "int"), ("int 1; int 1; div", "int"),
                           ("int 1; int 1; rem", "int"), ("int 1; int 1; less", "truth"), ("nil; nil; same", "truth"),
                           ("truth true", "truth"), ("truth true; not", "truth"), ("nil; is A", "truth"), ("text a", "text"),
                           ("int 1; tell", "text"), ("nil; ask D m", "text"), ("nil; get A t", "text"), ("new B", B),
                           ("new A; as B", B), ("nil; get A next", A), ("nil; get E next", A), ("int 1; nil; call 5", B),
                           ("nil; int 1; ask B m", "int"), ("int 1; row int", ROW), ("int 1; row row A", ("row", ("row", A))),
                           ("int 1; row row A; int 0; at", ("row", A)), ("int 1; row A; int 0; at", A),
                           ("nil; get A r; int 0; at", "int")):
            for other in ("int", "truth", "text", A, B, ROW, ("row", A), ("row", ("row", A))):
                right = other == kind or (other, kind) == (A, B)
                self.code(text + "; store 0; done", None if right else "kind", text.count(";") + 1, own=(other,))
        self.code("load 0; store 1; done", "unset", 0, own=("int", "int"))
        self.code("load 0; store 1; done", "kind", 1, own=("int", "text"))

    def test_the_least_place(self):
        self.code("nil; not; drop; nil; not; drop; done", "kind", 1)
        # A later place is come to first, by the jump.
        self.code("truth true; if 5; nil; not; drop; nil; not; drop; done", "kind", 3)

    def test_what_cannot_be_come_to_is_not_looked_at(self):
        self.let("jump 3; nil; not; done")

    def test_values_below(self):
        self.let("int 1; truth true; twin; not; drop; not; drop; tell; drop; done",
                 "text a; int 1; int 2; add; tell; drop; show; done", "new A; nil; new B; get A n; tell; drop; drop; throw")

    def test_what_is_given_on_whatever_kinds_it_has(self):
        # The wrong instruction gives its value to one at a lower place, which lets just this kind.
        for values, instruction, kind in (
                ("nil; int 1", "add", "int"), ("int 1; nil", "add", "text"), ("int 1; text a", "add", "text"),
                ("text a; int 1", "add", "int"), ("int 1; truth true", "add", None), ("truth true; new A", "add", None),
                ("nil; nil", "sub", "int"), ("nil; nil", "mul", "int"), ("nil; nil", "div", "int"), ("nil; nil", "rem", "int"),
                ("nil; nil", "less", "truth"), ("nil; int 1", "same", "truth"), ("nil", "not", "truth"),
                ("int 1; int 1", "at", None), ("text a; int 1", "at", None), ("new A; int 1", "at", None),
                ("int 1", "is A", "truth"), ("int 1", "as A", A), ("int 1", "size", "int"), ("int 1; nil", "sign", "int"),
                ("nil", "tell", "text"), ("int 1", "get A n", "int"), ("nil", "row int", ROW), ("nil; int 1", "call 5", B),
                ("int 1; int 1", "ask A m", "int"), ("int 1", "ask D m", "text")):
            for other in ("int", "truth", "text", A, B, ROW):
                right = kind == other or (kind, other) == (B, A)
                text = f"jump 3; store 0; done; {values}; {instruction}; jump 1"
                place = text.count(";") - 1 if right else 1
                self.code(text, "kind", place, own=(other,))


class Meeting(Verifying):
    def met(self, first, second, behind, word):
        text = meeting(first, second)
        place = text.count(";")
        for other in (text, meeting(second, first)):
            self.code(other + behind + "; done", word, place, own=(A, B, ("row", A), ROW, "text"))

    def test_equal_ones(self):
        for kind in NEWS:
            self.met(kind, kind, "drop", None)
        self.met("int", "int", "tell; drop", None)
        self.met("rowA", "rowA", "store 2", None)

    def test_nil_and_a_reference(self):
        self.met("nil", "B", "store 1", None)
        self.met("nil", "rowA", "store 2", None)
        self.met("nil", "text", "store 4", None)
        self.met("nil", "text", "store 0", "kind")
        self.met("nil", "nil", "store 0", None)
        self.met("nil", "int", "store 0", "kind")
        self.met("nil", "int", "tell; drop", "kind")

    def test_classes(self):
        self.met("B", "C", "store 0", None)
        self.met("B", "C", "store 1", "kind")
        self.met("E", "B", "store 1", None)
        self.met("E", "C", "store 0", None)
        self.met("A", "E", "store 0", None)
        self.met("A", "E", "store 1", "kind")
        self.met("D", "A", "store 0", "kind")
        self.met("B", "C", "get A n; drop", None)

    def test_mixed_lets_drop_and_twin_alone(self):
        for first, second in (("int", "truth"), ("int", "text"), ("int", "nil"), ("truth", "nil"), ("D", "A"), ("A", "row"),
                              ("A", "text"), ("rowA", "rowB"), ("rowA", "row"), ("row row", "row"), ("text", "row")):
            self.met(first, second, "drop", None)
            self.met(first, second, "twin; drop; drop", None)
            for behind in ("store 0", "store 4", "not; drop", "throw", "show", "size; drop", "tell; drop", "is A; drop",
                           "as A; drop", "row int; drop", "get A n; drop"):
                self.met(first, second, behind, "kind")
            place = meeting(first, second).count(";")
            for behind in ("int 1; add; drop", "nil; add; drop", "nil; same; drop", "int 1; same; drop", "int 0; at; drop",
                           "int 0; sign; drop", "int 1; less; drop", "int 1; put A n"):
                self.code(meeting(first, second) + behind + "; done", "kind", place + 1)
            self.code(meeting(first, second) + "twin; same; drop; done", "kind", place + 1)
            self.code(meeting(first, second) + "int 0; int 1; set; done", "kind", place + 2)

    def test_mixed_is_given_on(self):
        mixed = meeting("int", "nil")
        place = mixed.count(";")
        self.code(mixed + "twin; drop; tell; drop; done", "kind", place + 2)
        # Of an add whose topmost value is mixed comes what is mixed, of one that is an int an int: the first that
        # is wrong is told all the same.
        self.code("int 1; " + meeting("int", "nil").replace("if 4", "if 5").replace("jump 5", "jump 6") + "add; drop; done",
                  "kind", place + 1)

    def test_round_and_round(self):
        # Only at the second time it is mixed.
        self.code("nil; twin; drop; drop; int 1; truth true; if 1; drop; done", None)
        self.code("nil; twin; show; drop; int 1; truth true; if 1; drop; done", "kind", 2)
        self.code("nil; twin; throw; drop; int 1; truth true; if 1; drop; done", None)
        self.code("new E; twin; store 0; drop; new C; truth true; if 1; drop; done", None, own=(A,))
        self.code("new E; twin; store 0; drop; new C; truth true; if 1; drop; done", "kind", 2, own=(B,))
        self.code("new E; twin; store 0; drop; new B; truth true; if 1; drop; done", None, own=(B,))

    def test_more_than_one_value(self):
        self.code("int 1; nil; truth true; if 10; drop; drop; int 2; new B; jump 10; done; store 0; tell; drop; done", None,
                  own=(A,))
        self.code("int 1; nil; truth true; if 10; drop; drop; nil; new B; jump 10; done; store 0; tell; drop; done", "kind", 11,
                  own=(A,))


class NilRows(Verifying):
    def test_an_at_of_nil_gives_nothing(self):
        # What only it leads to is not looked at.
        self.let("nil; int 0; at; not; tell; drop; done", "nil; int 0; at; twin; add; throw")
        self.code("nil; int 0; at; drop; drop; done", "short", 4)
        self.code("nil; truth true; at; drop; done", "kind", 2)

    def test_what_else_leads_there_is_looked_at(self):
        self.code("truth true; if 6; nil; int 0; at; jump 7; int 1; not; drop; done", "kind", 7)
        self.code("truth true; if 6; nil; int 0; at; jump 7; int 1; tell; drop; done", None)
        self.code("truth true; if 6; nil; int 0; at; jump 7; truth true; not; drop; done", None)

    def test_a_row_that_is_nil_by_one_way(self):
        self.code(meeting("nil", "row") + "int 0; at; tell; drop; done", None)
        self.code(meeting("nil", "row") + "int 0; at; not; drop; done", "kind", meeting("nil", "row").count(";") + 2)

    def test_a_catch_behind_it(self):
        # The range has no kinds, and so has what its catch leads to.
        self.let("nil; int 0; at; nil; throw; not; drop; done", catches=((3, 5, 5, "A"),))
        self.code("nil; int 0; at; nil; throw; not; drop; done", "kind", 5, catches=((2, 5, 5, "A"),))

    def test_locals_behind_it_are_looked_at(self):
        self.code("nil; int 0; at; drop; load 0; drop; done", "unset", 4, own=("int",))


class Catches(Verifying):
    def test_the_kind_of_what_is_caught(self):
        for name, right in (("A", "A"), ("B", "AB"), ("E", "ABE"), ("D", "D")):
            for field in "ABCDE":
                own = (("of", field),)
                self.code("nil; throw; store 0; done", None if field in right else "kind", 2, own, ((0, 2, 2, name),))

    def test_two_that_lead_to_one_place(self):
        for first, second, right in (("B", "C", "A"), ("E", "B", "AB"), ("A", "E", "A"), ("A", "D", "")):
            for field in "ABCDE":
                catches = ((0, 1, 2, first), (1, 2, 2, second))
                self.code("nil; throw; store 0; done", None if field in right else "kind", 2, (("of", field),), catches)

    def test_whose_range_is_not_come_to(self):
        self.let("jump 3; nil; throw; done; tell; drop; done", catches=((1, 3, 4, "A"),))
        self.code("jump 3; nil; throw; done; tell; drop; done", "kind", 4, catches=((1, 4, 4, "A"),))
        catches = ((0, 1, 4, "A"), (1, 3, 4, "D"))
        self.code("jump 3; nil; throw; done; store 0; done", None, own=(A,), catches=catches)

    def test_what_comes_to_it_besides(self):
        self.code("new B; truth true; if 4; throw; store 0; done", None, own=(A,), catches=((0, 1, 4, "C"),))
        self.code("new B; truth true; if 4; throw; store 0; done", "kind", 4, own=(B,), catches=((0, 1, 4, "C"),))


class Unset(Verifying):
    def test_params_are_set_and_locals_are_not(self):
        code = (("load", 0), ("drop",), ("load", 1), ("drop",), ("done",))
        self.told(module_of(function_of(), function_of(params=("int", "int"), code=code)), None)
        self.told(module_of(function_of(), function_of(params=("int",), own=("int",), code=code)), ("unset", 1, 2))
        self.told(module_of(function_of(), function_of(own=("int", "int"), code=code)), ("unset", 1, 0))

    def test_store(self):
        self.code("int 1; store 0; load 0; drop; done", None, own=("int",))
        self.code("int 1; store 1; load 0; drop; done", "unset", 2, own=("int", "int"))
        self.code("int 1; store 0; load 1; drop; load 0; drop; done", "unset", 2, own=("int", "int"))

    def test_where_ways_meet(self):
        self.code("truth true; if 4; int 1; store 0; load 0; drop; done", "unset", 4, own=("int",))
        self.code("truth true; if 5; int 1; store 0; jump 7; int 2; store 0; load 0; drop; done", None, own=("int",))
        self.code("truth true; if 5; int 1; store 0; jump 7; int 2; store 1; load 0; drop; done", "unset", 7, own=("int", "int"))

    def test_round_and_round(self):
        # At the second time it is set, at the first it is not.
        self.code("jump 3; load 0; drop; int 1; store 0; truth true; if 1; done", None, own=("int",))
        self.code("load 0; drop; int 1; store 0; jump 0", "unset", 0, own=("int",))
        self.code("int 1; store 0; load 0; drop; truth true; if 2; done", None, own=("int",))

    def test_catches(self):
        # Set ahead of each instruction of the range: not yet what the store in it sets.
        self.code("int 1; store 0; nil; throw; drop; load 0; drop; done", None, own=("int",), catches=((2, 4, 4, "A"),))
        self.code("int 1; store 0; nil; throw; drop; load 0; drop; done", "unset", 5, own=("int",), catches=((1, 4, 4, "A"),))
        self.code("int 1; store 0; nil; throw; drop; load 0; drop; done", "unset", 5, own=("int",), catches=((1, 2, 4, "A"),))
        self.code("int 1; store 0; nil; throw; store 1; load 1; drop; load 0; drop; done", None, own=("int", A),
                  catches=((2, 3, 4, "A"),))

    def test_a_range_of_which_a_part_is_not_come_to(self):
        self.code("int 1; jump 3; nil; store 0; nil; throw; drop; load 0; drop; done", None, own=("int",),
                  catches=((2, 3, 6, "A"), (4, 6, 6, "A")))

    def test_a_range_behind_an_at_of_nil(self):
        # It has no kinds, but it can be come to: there its catch is a way.
        text = "nil; int 0; at; drop; nil; throw; drop; load 0; drop; done"
        self.code(text, "unset", 7, own=("int",), catches=((4, 6, 6, "A"),))
        text = "truth true; if 7; nil; int 0; at; drop; jump 9; int 1; store 0; load 0; drop; done"
        self.code(text, "unset", 9, own=("int",))

    def test_what_cannot_be_come_to_is_not_looked_at(self):
        self.let("jump 3; load 0; drop; done", own=("int",))


if __name__ == "__main__":
    unittest.main()
