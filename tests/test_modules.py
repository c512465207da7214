"""is_module: the forms and bounds of points 12 and 13; BadModule of all that take a module."""

import unittest

from movedrun.compiler import compiled
from movedrun.errors import BadModule
from movedrun.modules import is_module, write_module
from movedrun.verifier import heights, set_locals, stack_kinds, verify
from tests.building import EXAMPLE, WORDS
from tests.modulebuilding import INSTRUCTIONS, KINDS, WHOLE, class_of, function_of, module_of, with_code

OTHERS = (
    None, True, False, 0, 1, -1, 10 ** 30, "", "x", "main 0", b"x", (), [], {}, {1}, frozenset(), ("x",), [("done",)],
    object(), int, range(3), ((), ()), ((), (), 0, 0), (None,) * 3,
)


class Asking(unittest.TestCase):
    def right(self, *things):
        for thing in things:
            with self.subTest(thing=repr(thing)[:300]):
                self.assertIs(is_module(thing), True)

    def wrong(self, *things):
        for thing in things:
            with self.subTest(thing=repr(thing)[:300]):
                self.assertIs(is_module(thing), False)

    def right_code(self, *instructions):
        for instruction in instructions:
            self.right(with_code(instruction))

    def wrong_code(self, *instructions):
        for instruction in instructions:
            self.wrong(with_code(instruction), with_code(("nil",), instruction, ("done",)))


class Modules(Asking):
    def test_right_ones(self):
        self.right(WHOLE, module_of(), module_of(function_of()), compiled(EXAMPLE), ((), (), 9999))

    def test_other_objects(self):
        self.wrong(*OTHERS)

    def test_argument_by_name(self):
        self.assertIs(is_module(thing=WHOLE), True)
        self.assertIs(is_module(thing=[]), False)

    def test_lists_for_tuples(self):
        self.wrong(list(WHOLE), ([], (), 0), ((), [], 0), ((), (), [0]))

    def test_any_one_thing_exchanged(self):
        for thing in spoiled(WHOLE):
            self.assertIs(is_module(thing), False, thing)

    def test_main(self):
        self.right(module_of(main=0), module_of(main=9999))
        self.wrong(*[module_of(main=main) for main in (-1, 10000, True, False, None, "0", (), (0,))])

    def test_bounds_of_the_whole(self):
        self.right(module_of(classes=(class_of(),) * 12), module_of(*[function_of()] * 60))
        self.wrong(module_of(classes=(class_of(),) * 13), module_of(*[function_of()] * 61))

    def test_form_alone_counts(self):
        # Names twice, and what is not there, are the verifier's.
        self.right(module_of(function_of(), function_of()), with_code(("nil",)), with_code(("call", 9999), ("load", 9999)),
                   module_of(classes=(class_of("A", "A"), class_of("A", "B", (("f", "int"),) * 2, (("m", 0),) * 2))),
                   module_of(function_of(catches=((9, 3, 1, "Gone"),))))


def spoiled(thing):
    """The thing with any one part of it exchanged for what fits nowhere; None alone fits in two places, and so is not tried."""
    if not isinstance(thing, tuple):
        yield from ([thing], {}, object(), b"A", '"', 10 ** 10, 1 if isinstance(thing, bool) else True)
        return
    yield list(thing)
    yield thing + (object(),)
    for at, part in enumerate(thing):
        for other in spoiled(part):
            yield thing[:at] + (other,) + thing[at + 1:]


class Classes(Asking):
    def test_forms(self):
        self.right(*[module_of(classes=(each,)) for each in (
            class_of(), class_of("a"), class_of("Abcdefg8"), class_of("A", "B"), class_of("A", "A"))])
        for each in (class_of(""), class_of("Abcdefgh9"), class_of("1a"), class_of("a_"), class_of(None), class_of(1),
                     class_of("A", ""), class_of("A", 1), class_of("A", "if"), class_of("A.b"), class_of("A", "B.c"),
                     class_of("A", ("of", "B")), ("A", None, ()), ("A", None, (), (), ()), ["A", None, (), ()], (), None):
            self.wrong(module_of(classes=(each,)))
        for word in WORDS:
            self.wrong(module_of(classes=(class_of(word),)))

    def test_fields(self):
        many = tuple((f"f{at}", "int") for at in range(9))
        self.right(module_of(classes=(class_of(fields=many[:8]),)))
        for fields in (many, list(many[:1]), None, "f", (("f",),), (("f", "int", "int"),), ("f", "int"), (["f", "int"],),
                       (("if", "int"),), (("f", "nil"),), (("f", None),), (("f", "A"),), (("f", ("of", "if")),),
                       (("f.g", "int"),), (("f", ("row", ("row", ("row", ("row", "int"))))),)):
            self.wrong(module_of(classes=(class_of(fields=fields),)))

    def test_methods(self):
        many = tuple((f"m{at}", at) for at in range(9))
        self.right(module_of(classes=(class_of(methods=many[:8]),)), module_of(classes=(class_of(methods=(("m", 9999),)),)))
        for methods in (many, list(many[:1]), None, "m", (("m",),), (("m", 0, 0),), ("m", 0), (["m", 0],), (("if", 0),),
                        (("A.m", 0),), (("m", -1),), (("m", 10000),), (("m", True),), (("m", "0"),), (("m", None),)):
            self.wrong(module_of(classes=(class_of(methods=methods),)))


class Functions(Asking):
    def test_names(self):
        for name in ("a", "Abcdefg8", "a.b", "Abcdefg8.abcdefg8", "main"):
            self.right(module_of(function_of(name)))
        for name in ("", ".", "a.", ".a", "a.b.c", "a..b", "abcdefghi", "a.abcdefghi", "abcdefghi.a", "if", "a.if", "if.a",
                     "1a", "a.1a", "a b", "a. b", " a", "a_", None, 1, True, ("a", "b"), ("a",), b"a"):
            self.wrong(module_of(function_of(name)))

    def test_kinds(self):
        for kind, _ in KINDS:
            self.right(module_of(function_of(params=(kind,))), module_of(function_of(result=kind)),
                       module_of(function_of(own=(kind,))))
        self.right(module_of(function_of(result=None)))
        for kind in ("nil", "mixed", "A", "", 1, True, (), ("of",), ("of", "A", "B"), ("of", "if"), ("of", None), ("row",),
                     ("row", "nil"), ["row", "int"], ("row", ("row", ("row", ("row", "int")))), ("row", None), ("of", "A.b"),
                     ("int",), ("row", "int", "int")):
            self.wrong(module_of(function_of(params=(kind,))), module_of(function_of(result=kind)),
                       module_of(function_of(own=(kind,))), module_of(function_of(params=("int", kind))))
        self.wrong(module_of(function_of(params=(None,))), module_of(function_of(own=(None,))))

    def test_params_and_locals_together(self):
        for params in (0, 1, 13, 20):
            self.right(module_of(function_of(params=("int",) * params, own=("text",) * (20 - params))))
            self.wrong(module_of(function_of(params=("int",) * params, own=("text",) * (21 - params))))
        self.wrong(module_of(function_of(params=("int",) * 21)), module_of(function_of(own=("int",) * 21)))
        for wrong in ([], ["int"], None, "int", {}):
            self.wrong(module_of(function_of(params=wrong)), module_of(function_of(own=wrong)))

    def test_code(self):
        self.right(with_code(("done",)), with_code(*[("nil",)] * 4000))
        self.wrong(with_code(), with_code(*[("nil",)] * 4001), module_of(function_of(code=[("done",)])),
                   module_of(function_of(code=None)), module_of(function_of(code="done")),
                   module_of(function_of(code=("done",))))

    def test_catches(self):
        catch = (0, 9999, 5, "A")
        self.right(module_of(function_of(catches=(catch,) * 10)), module_of(function_of(catches=((9999, 0, 0, "A"),))))
        for catches in ((catch,) * 11, [catch], None, catch, (list(catch),), (catch[:3],), (catch + (0,),),
                        ((-1, 1, 1, "A"),), ((0, -1, 1, "A"),), ((0, 1, -1, "A"),), ((10000, 1, 1, "A"),),
                        ((0, 10000, 1, "A"),), ((0, 1, 10000, "A"),), ((True, 1, 1, "A"),), ((0, True, 1, "A"),),
                        ((0, 1, True, "A"),), ((0, 1, 2, "if"),), ((0, 1, 2, None),), ((0, 1, 2, 3),),
                        ((0, 1, 2, ("of", "A")),), (("0", 1, 2, "A"),)):
            self.wrong(module_of(function_of(catches=catches)))

    def test_parts(self):
        whole = function_of()
        self.wrong(module_of(whole[:5]), module_of(whole + ((),)), module_of(list(whole)), module_of(()), module_of(None),
                   module_of("f"), module_of(dict(enumerate(whole))))


class Instructions(Asking):
    def test_each_one(self):
        self.right_code(*[instruction for instruction, _ in INSTRUCTIONS])

    def test_no_instructions(self):
        self.wrong_code(None, (), [], "nil", "done", 5, ["nil"], ("nil", None), ((),), (None,), (1,), (True,), ("",),
                        ("Nil",), (("nil",),), ("is",), ("class", "A"), ("main",), ("catch", 0, 1, 2, "A"), ("var", 0),
                        ("and",), ("or",), ("+",), ("return",), ("name", "x"), ({},), (b"nil",), {})

    def test_one_more_and_one_less(self):
        for instruction, _ in INSTRUCTIONS:
            self.wrong_code(instruction + (0,), instruction + ("A",), list(instruction))
            if len(instruction) > 1:
                self.wrong_code(instruction[:-1])

    def test_ints(self):
        self.wrong_code(*[("int", n) for n in (-2 ** 31 - 1, 2 ** 31, 10 ** 40, True, False, None, "1", (1,), "")])

    def test_truths(self):
        self.wrong_code(*[("truth", b) for b in (0, 1, None, "true", "", ())])

    def test_texts(self):
        for sign in map(chr, range(32, 127)):
            if sign in "\"" or ord(sign) == 37:
                self.wrong_code(("text", sign), ("text", "a" + sign))
            else:
                self.right_code(("text", sign))
        self.right_code(("text", "a" * 40))
        self.wrong_code(("text", "a" * 41), ("text", None), ("text", 1), ("text", ("a",)), ("text", b"a"))

    def test_indexes(self):
        for word in ("load", "store", "jump", "if", "call"):
            self.right_code((word, 0), (word, 9999))
            self.wrong_code(*[(word, index) for index in (-1, 10000, True, False, None, "0", (0,), 10 ** 30)])

    def test_names(self):
        for word in ("new", "is", "as"):
            self.right_code((word, "a"), (word, "Abcdefg8"))
            self.wrong_code(*[(word, name) for name in ("", "if", "self", "abcdefghi", "1a", "a.b", None, 1, ("of", "A"))])
        for word in ("ask", "get", "put"):
            self.right_code((word, "a", "b"), (word, "Abcdefg8", "abcdefg8"))
            for name in ("", "if", "self", "abcdefghi", "1a", "a.b", None, 1, ("of", "A")):
                self.wrong_code((word, name, "b"), (word, "a", name))

    def test_rows(self):
        for kind in ("int", "truth", "text", ("of", "A"), ("row", "int"), ("row", ("row", "text"))):
            self.right_code(("row", kind))
        self.wrong_code(*[("row", kind) for kind in (
            None, "nil", "A", ("row",), ("row", ("row", ("row", "int"))), ["row", "int"], ("of", "if"))])


class BadModules(unittest.TestCase):
    def test_any_object_that_is_none(self):
        for thing in OTHERS + (module_of(main=True), with_code(), with_code(("int", True)), list(WHOLE), EXAMPLE):
            for ask in (write_module, verify):
                with self.assertRaises(BadModule):
                    ask(thing)
            for ask in (heights, stack_kinds, set_locals):
                for index in (0, None):
                    with self.assertRaises(BadModule):
                        ask(thing, index)


if __name__ == "__main__":
    unittest.main()
