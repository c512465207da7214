"""is_program: the forms and bounds of points 4 to 6."""

import unittest

from movedrun.programs import is_program
from tests.building import EXAMPLE, EXPRESSIONS, STATEMENTS, WHOLE, WORDS, deep, program_of, with_kind

OTHERS = (
    None, True, False, 0, 1, -1, 10 ** 30, "", "x", "if", b"x", (), [], {}, {1}, frozenset(), ("x",), [("nil",)],
    {"int": 1}, object(), int, range(3), ((), ()), (None,) * 4, ("int", "1"),
)


def function(name="f", params=(), result=None, body=()):
    return (name, params, result, body)


def many_functions(many):
    return tuple(function("f" + str(at)) for at in range(many))


def many_named(many):
    return tuple(("n" + str(at), "int") for at in range(many))


def of_class(name="C", above=None, fields=(), methods=()):
    return ((name, above, fields, methods),)


class Asking(unittest.TestCase):
    def right(self, *things):
        for thing in things:
            with self.subTest(thing=thing):
                self.assertIs(is_program(thing), True)

    def wrong(self, *things):
        for thing in things:
            with self.subTest(thing=thing):
                self.assertIs(is_program(thing), False)

    def right_in_body(self, *statements):
        for statement in statements:
            self.right(program_of(statement))

    def wrong_in_body(self, *statements):
        for statement in statements:
            self.wrong(program_of(statement))

    def right_expressions(self, *expressions):
        for expression in expressions:
            self.right_in_body(("do", expression))

    def wrong_expressions(self, *expressions):
        for expression in expressions:
            self.wrong_in_body(("do", expression))


class Programs(Asking):
    def test_right_ones(self):
        self.right(((), ()), EXAMPLE, WHOLE, program_of())

    def test_each_statement_and_expression(self):
        self.right_in_body(*[statement for statement, _ in STATEMENTS])
        self.right_expressions(*[expression for expression, _ in EXPRESSIONS])

    def test_argument_by_name(self):
        self.assertIs(is_program(thing=EXAMPLE), True)
        self.assertIs(is_program(thing=None), False)

    def test_other_objects(self):
        self.wrong(*[thing for thing in OTHERS if thing != ((), ())])

    def test_not_two(self):
        self.wrong((), ((),), ((), (), ()), [(), ()], ([], ()), ((), []), (None, ()), ((), None), ("", ()), ((), ""))

    def test_form_alone_counts(self):
        # Names twice, classes that are not there and no main are the check's.
        self.right(
            (of_class() + of_class("C", "Gone"), (function(), function())),
            with_kind(("of", "Gone")),
            program_of(("set", "gone", ("name", "gone"))),
            program_of(("return", ("int", 1)), ("return", None)),
        )


class Names(Asking):
    def test_signs_of_a_name(self):
        for name in ("a", "z", "A", "Z", "a0", "Z9", "abcdefgh", "A1234567", "iff", "If", "SELF", "main", "of"):
            self.right(((), (function(name),)))
        for name in ("", "abcdefghi", "0", "9a", "a_b", "_a", "a b", " a", "a ", "a-", "a.b", "a\n", "\t", "\u00e4"):
            self.wrong(((), (function(name),)))

    def test_words_are_no_names(self):
        self.assertEqual(len(WORDS), 31)
        for word in WORDS:
            self.wrong(
                ((), (function(word),)),
                ((), (function("f", ((word, "int"),)),)),
                (of_class(word), ()),
                (of_class("C", word), ()),
                (of_class("C", None, ((word, "int"),)), ()),
                (of_class("C", None, (), (function(word),)), ()),
            )
            self.wrong_in_body(
                ("var", word, "int", ("nil",)),
                ("set", word, ("nil",)),
                ("put", ("nil",), word, ("nil",)),
                ("try", (), word, "C", ()),
                ("try", (), "e", word, ()),
            )
            self.wrong_expressions(
                ("get", ("nil",), word),
                ("call", word, ()),
                ("ask", ("nil",), word, ()),
                ("new", word),
                ("is", ("nil",), word),
                ("as", ("nil",), word),
                ("row", ("of", word), ("nil",)),
            )

    def test_self_is_the_one_word_that_is_read(self):
        for word in WORDS:
            self.assertIs(is_program(program_of(("do", ("name", word)))), word == "self")

    def test_a_name_is_a_str(self):
        for thing in (None, 1, True, b"f", ("f",), ["f"], {"f": 1}):
            self.wrong(((), (function(thing),)))
            self.wrong_expressions(("name", thing), ("call", thing, ()), ("new", thing))


class Kinds(Asking):
    def test_right_ones(self):
        for kind in ("int", "truth", "text", ("of", "C"), ("row", "int"), ("row", ("of", "C"))):
            self.right(with_kind(kind))

    def test_rows_within_one_another(self):
        for inner in ("int", "truth", "text", ("of", "C")):
            self.right(with_kind(("row", ("row", ("row", inner)))))
            self.wrong(with_kind(("row", ("row", ("row", ("row", inner))))))

    def test_rows_of_fields_params_and_results(self):
        three = ("row", ("row", ("row", "int")))
        four = ("row", three)
        self.right(
            (of_class("C", None, (("f", three),)), ()),
            ((), (function("f", (("p", three),)),)),
            ((), (function("f", (), three),)),
        )
        self.wrong(
            (of_class("C", None, (("f", four),)), ()),
            ((), (function("f", (("p", four),)),)),
            ((), (function("f", (), four),)),
        )

    def test_rows_of_entries(self):
        two = ("row", ("row", "int"))
        self.right_expressions(("row", "int", ("nil",)), ("row", ("row", "int"), ("nil",)), ("row", two, ("nil",)))
        self.wrong_expressions(("row", ("row", two), ("nil",)), ("row", ("row", ("row", ("row", "text"))), ("nil",)))
        self.wrong_expressions(("row", "nil", ("nil",)), ("row", None, ("nil",)), ("row", ["row", "int"], ("nil",)))

    def test_wrong_ones(self):
        for kind in (
            "", "nil", "row", "of", "C", "Int", "self", None, 1, True, (), ("int",), ("row",), ("of",),
            ("row", None), ("row", "nil"), ("row", "C"), ("row", "int", "int"), ["row", "int"], ("row", ["of", "C"]),
            ("of", "C", "C"), ["of", "C"], ("of", None), ("of", 1), ("of", ("of", "C")), ("of", "abcdefghi"),
            ("in", "C"), ("int", "C"), (("of", "C"),), ("row", ("row",)), {"of": "C"}, b"int", ("text", "text"),
        ):
            self.wrong(with_kind(kind), (of_class("C", None, (("f", kind),)), ()))
            self.wrong(((), (function("f", (("p", kind),)),)))
            if kind is not None:
                self.wrong(((), (function("f", (), kind),)))


class Bounds(Asking):
    def test_classes(self):
        self.right((of_class() * 12, ()))
        self.wrong((of_class() * 13, ()))

    def test_functions_and_methods_together(self):
        self.right(((), many_functions(30)))
        self.wrong(((), many_functions(31)))
        three = of_class("A", None, (), many_functions(8)) * 3
        self.right((three, many_functions(6)), (three + of_class("B", None, (), many_functions(6)), ()))
        self.wrong((three, many_functions(7)), (three + of_class("B", None, (), many_functions(7)), ()))

    def test_fields(self):
        self.right((of_class("C", None, many_named(8)), ()))
        self.wrong((of_class("C", None, many_named(9)), ()))

    def test_methods_of_a_class(self):
        self.right((of_class("C", None, (), many_functions(8)), ()))
        self.wrong((of_class("C", None, (), many_functions(9)), ()))

    def test_params(self):
        for many in (6, 7):
            functions = (function("f", many_named(many)),)
            self.assertIs(is_program(((), functions)), many == 6)
            self.assertIs(is_program((of_class("C", None, (), functions), ())), many == 6)

    def test_statements_and_expressions_of_a_body(self):
        self.right(program_of(*[("return", None)] * 400))
        self.wrong(program_of(*[("return", None)] * 401))
        self.right(program_of(*[("do", ("read",))] * 200))
        self.wrong(program_of(*[("do", ("read",))] * 200, ("return", None)))
        self.right(program_of(("do", ("call", "f", (("read",),) * 398))))
        self.wrong(program_of(("do", ("call", "f", (("read",),) * 399))))
        self.right(program_of(("if", ("read",), (("return", None),) * 199, (("return", None),) * 199)))
        self.wrong(program_of(("if", ("read",), (("return", None),) * 199, (("return", None),) * 200)))

    def test_each_body_has_its_own_bound(self):
        body = (("return", None),) * 400
        self.right((of_class("C", None, (), (function("m", (), None, body),) * 2), (function("f", (), None, body),)))

    def test_chains(self):
        self.right(program_of(("do", deep(19))))
        self.wrong(program_of(("do", deep(20))))
        self.right(program_of(("show", ("call", "f", (("read",), deep(18))))))
        self.wrong(program_of(("show", ("call", "f", (("read",), deep(19))))))
        self.right(program_of(("show", ("ask", ("read",), "f", (("read",), deep(18))))))
        self.wrong(program_of(("show", ("ask", ("read",), "f", (("read",), deep(19))))))
        self.right(program_of(("place", ("read",), ("read",), deep(19))))
        self.wrong(program_of(("place", ("read",), ("read",), deep(20))))

    def test_chains_of_statements(self):
        for wrap in (
            lambda inner: ("while", ("read",), (inner,)),
            lambda inner: ("if", ("read",), (inner,), ()),
            lambda inner: ("if", ("read",), (), (inner,)),
            lambda inner: ("try", (inner,), "e", "C", ()),
            lambda inner: ("try", (), "e", "C", (inner,)),
        ):
            statement = ("return", None)
            for _ in range(9):
                statement = wrap(statement)
            self.right(program_of(statement), program_of(("while", ("read",), (statement,))))
        statement = ("return", None)
        for _ in range(19):
            statement = ("while", ("read",), (statement,))
        self.right(program_of(statement))
        self.wrong(program_of(("while", ("read",), (statement,))))
        # The statement at the end has a part of its own.
        statement = ("return", ("read",))
        for _ in range(18):
            statement = ("if", ("read",), (), (statement,))
        self.right(program_of(statement))
        self.wrong(program_of(("if", ("read",), (), (statement,))))

    def test_names_told_in_a_body(self):
        var = ("var", "v", "int", ("int", 1))
        caught = ("try", (), "e", "C", ())
        self.right(program_of(*[var] * 16))
        self.wrong(program_of(*[var] * 17))
        self.right(((), (function("f", many_named(6), None, (var,) * 10),)))
        self.wrong(((), (function("f", many_named(6), None, (var,) * 11),)))
        self.right(program_of(*[var] * 6, *[caught] * 10))
        self.wrong(program_of(*[var] * 7, *[caught] * 10))
        self.right(((), (function("f", many_named(6), None, (caught,) * 10),)))
        self.wrong(((), (function("f", many_named(6), None, (caught,) * 10 + (var,)),)))
        self.right(((), (function("f", many_named(6)), function("g", many_named(6), None, (var,) * 10))))
        inner = ("if", ("read",), (var,) * 8, (("while", ("read",), (var,) * 8),))
        self.right(program_of(inner))
        self.wrong(program_of(inner, var))

    def test_tries(self):
        caught = ("try", (), "e", "C", ())
        self.right(program_of(*[caught] * 10))
        self.wrong(program_of(*[caught] * 11))
        inner = ("try", (caught,) * 5, "e", "C", (caught,) * 4)
        self.right(program_of(inner))
        self.wrong(program_of(inner, caught))

    def test_signs_of_a_text(self):
        signs = "".join(chr(code) for code in range(32, 127) if code not in (34, 37))
        self.assertEqual(len(signs), 93)
        self.right_expressions(("text", signs[:40]), ("text", signs[40:80]), ("text", signs[80:]))
        self.right_expressions(("text", ""), ("text", "x" * 40))
        self.wrong_expressions(("text", "x" * 41), ("text", 'a"'), ("text", "a\n"), ("text", "\t"), ("text", "\x7f"))
        self.wrong_expressions(("text", chr(37)), ("text", "\x1f"), ("text", b"a"), ("text", None), ("text", ("a",)))
        self.wrong_expressions(("text", 1), ("text", ["a"]), ("text",), ("text", "a", "b"))

    def test_integers_at_both_ends(self):
        self.right_expressions(("int", 2147483647), ("int", -2147483648), ("int", 0))
        self.wrong_expressions(("int", 2147483648), ("int", -2147483649), ("int", 10 ** 40))
        self.wrong_expressions(("int", True), ("int", False), ("int", "1"), ("int", None), ("int", (1,)), ("int", 1, 1))

    def test_truths(self):
        self.right_expressions(("truth", True), ("truth", False))
        self.wrong_expressions(("truth", 1), ("truth", 0), ("truth", None), ("truth", "true"), ("truth",))


class Forms(Asking):
    def test_signs_of_op(self):
        for sign in ("+", "-", "*", "/", "rem", "<", "=", "and", "or"):
            self.right_expressions(("op", sign, ("read",), ("read",)))
        for sign in ("", ">", "==", "is", "as", "not", "sign", "AND", "xor", None, 1, b"+", ("+",), ["+"]):
            self.wrong_expressions(("op", sign, ("read",), ("read",)))

    def test_statements_are_no_expressions(self):
        for statement, _ in STATEMENTS:
            self.wrong_expressions(statement)
            self.wrong_in_body(("while", statement, ()))

    def test_expressions_are_no_statements(self):
        for expression, _ in EXPRESSIONS:
            self.wrong_in_body(expression)
            self.wrong_in_body(("while", ("read",), (expression,)))

    def test_words_that_are_none(self):
        for word in ("", "Int", "vars", "self", "else", "catch", "def", None, 1, b"int", ("int",), ["int"], {}):
            self.wrong_in_body((word,), (word, ("read",)), ("do", (word,)), ("do", (word, 1)))

    def test_longer_and_shorter(self):
        for statement, _ in STATEMENTS:
            self.wrong_in_body(statement[:-1], statement + (None,), statement + (("read",),), statement + ((),))
            self.wrong_in_body(list(statement))
        for expression, _ in EXPRESSIONS:
            self.wrong_expressions(expression + (None,), expression + (("read",),), expression + ((),))
            self.wrong_expressions(expression[:-1], list(expression))
        self.wrong(((), (("f", (), None),)), ((), (("f", (), None, (), ()),)))
        self.wrong(((("C", None, ()),), ()), ((("C", None, (), (), ()),), ()))
        self.wrong((of_class("C", None, (("f",),)), ()), (of_class("C", None, (("f", "int", "int"),)), ()))
        self.wrong(((), (function("f", (("p",),)),)), ((), (function("f", (("p", "int", None),)),)))

    def test_only_return_may_lack_its_part(self):
        self.right_in_body(("return", None), ("return", ("nil",)))
        self.wrong_in_body(("throw", None), ("show", None), ("do", None), ("set", "x", None), ("while", None, ()))
        self.wrong_in_body(("return", ()), ("return", (None,)), ("return", "x"), ("return", 0))
        self.wrong_expressions(("not", None), ("call", "f", (None,)), ("call", "f", None), ("ask", None, "f", ()))

    def test_above_and_result(self):
        self.right((of_class("C", "C"), ()), (of_class("C", None), ()), ((), (function("f", (), ("of", "C")),)))
        self.wrong((of_class("C", ()), ()), (of_class("C", ""), ()), (of_class("C", ("of", "C")), ()))
        self.wrong(((), (function("f", (), ()),)), ((), (function("f", (), "nil"),)), ((), (function("f", (), "C"),)))


def places(thing, way=()):
    """All ways into a thing of tuples within one another."""
    found = [way]
    if isinstance(thing, tuple):
        for at, part in enumerate(thing):
            found.extend(places(part, way + (at,)))
    return found


def part_at(thing, way):
    for at in way:
        thing = thing[at]
    return thing


def exchanged(thing, way, part):
    if not way:
        return part
    at = way[0]
    return thing[:at] + (exchanged(thing[at], way[1:], part),) + thing[at + 1:]


class AnyDepth(Asking):
    def test_lists_for_tuples(self):
        for way in places(WHOLE):
            part = part_at(WHOLE, way)
            if isinstance(part, tuple):
                self.wrong(exchanged(WHOLE, way, list(part)))

    def test_none_for_anything(self):
        for way in places(WHOLE):
            part = part_at(WHOLE, way)
            told = is_program(exchanged(WHOLE, way, None))
            may_lack = part is None or len(way) == 3 and way[0] == 0 and way[2] == 1
            may_lack = may_lack or len(way) >= 3 and part_at(WHOLE, way[:-1])[0] == "return" and way[-1] == 1
            may_lack = may_lack or way[-1:] == (2,) and len(part_at(WHOLE, way[:-1])) == 4 and (
                way[0] == 1 and len(way) == 3 or way[0] == 0 and len(way) == 5 and way[2] == 3)
            self.assertIs(told, may_lack, (way, part))

    def test_other_objects_for_anything(self):
        for way in places(WHOLE):
            for other in ({}, {1}, object(), int, 10 ** 20, b"int", "no name"):
                part = part_at(WHOLE, way)
                if not (isinstance(part, str) and other == "no name"):
                    self.wrong(exchanged(WHOLE, way, other))

    def test_truths_for_integers_and_the_other_way_round(self):
        for way in places(WHOLE):
            part = part_at(WHOLE, way)
            if isinstance(part, int):
                self.wrong(exchanged(WHOLE, way, 1 if isinstance(part, bool) else True))
                self.wrong(exchanged(WHOLE, way, 0 if isinstance(part, bool) else False))

    def test_nothing_is_changed(self):
        before = repr(WHOLE)
        thing = [[], {}, "x"]
        is_program(WHOLE)
        is_program(thing)
        self.assertEqual((repr(WHOLE), thing), (before, [[], {}, "x"]))


class ManyPlaces(Asking):
    """One part that stands in very many places is soon looked at."""

    def test_doubled_expressions(self):
        expression = ("read",)
        for many in range(59):
            expression = ("op", "+", expression, expression)
            self.assertIs(is_program(program_of(("show", expression))), many < 7)

    def test_doubled_args(self):
        expression = ("read",)
        for _ in range(15):
            expression = ("call", "f", (expression,) * 10)
        self.wrong(program_of(("show", expression)))

    def test_doubled_blocks(self):
        block = (("return", None),)
        for _ in range(25):
            block = (("if", ("read",), block, block),)
        self.wrong(program_of(*block))

    def test_doubled_pairs_that_are_no_program(self):
        thing = ()
        for _ in range(58):
            thing = (thing, thing)
        self.wrong(thing, (thing, ()), ((), thing), with_kind(thing), with_kind(("row", thing)))
        self.wrong_in_body(thing, ("do", thing), ("call", "f", thing), ("show", ("call", "f", thing)))
        thing = "int"
        for _ in range(58):
            thing = (thing, thing, thing)
        self.wrong(thing, (thing, ()), ((), thing), (thing, thing))

    def test_long_tuples(self):
        self.wrong(((),) * 10 ** 6, ((None,) * 10 ** 6, ()), ((), (None,) * 10 ** 6))
        self.wrong(program_of(*[("return", None)] * 10 ** 6))
        self.wrong(program_of(("do", ("call", "f", (("read",),) * 10 ** 6))))
        self.wrong(((function("f", (("p", "int"),) * 10 ** 6),), ()))

    def test_shared_parts_within_the_bounds(self):
        same = ("op", "+", ("int", 1), ("int", 2))
        block = (("show", same), ("do", same))
        self.right(program_of(*block, ("if", same, block, block), ("while", same, block)))


if __name__ == "__main__":
    unittest.main()
