"""Which kinds fit which (point 9)."""

import unittest

from movedrun.checks import check
from movedrun.programs import read_program

# B and C are below A, D is below B; E stands alone.
CLASSES = (
    "class D above B { } class A { int n ; A a ; row int r ; } class B above A { } class C above A { } class E { } "
)
GIVERS = "def none ( ) { } def eat ( A a , row int r , text s ) { } "

# Of each kind an expression of one word; vars stand for those kinds that no other word has.
VARS = (
    ("a", "A"), ("b", "B"), ("c", "C"), ("d", "D"), ("e", "E"), ("ri", "row int"), ("rt", "row text"),
    ("ra", "row A"), ("rb", "row B"), ("rri", "row row int"), ("rra", "row row A"),
)
VALUES = {
    "int": "1", "truth": "true", "text": '"x"', "nil": "nil", "A": "a", "B": "b", "C": "c", "D": "d", "E": "e",
    "row int": "ri", "row text": "rt", "row A": "ra", "row B": "rb", "row row int": "rri", "row row A": "rra",
}
KINDS = tuple(VALUES)
OBJECTS = ("A", "B", "C", "D", "E")
ROWS = ("row int", "row text", "row A", "row B", "row row int", "row row A")
REFERENCES = OBJECTS + ROWS + ("text",)
BELOW = {"A": ("A", "B", "C", "D"), "B": ("B", "D"), "C": ("C",), "D": ("D",), "E": ("E",)}
FITTING = {kind: (kind,) for kind in ("int", "truth")}
FITTING.update({kind: (kind, "nil") for kind in REFERENCES})
FITTING.update({name: low + ("nil",) for name, low in BELOW.items()})


def told(statement):
    """What check tells of a main with the vars and a statement: the word and the index from the statement on."""
    vars_text = "".join("var " + kind + " " + name + " = nil ; " for name, kind in VARS)
    what = check(read_program(CLASSES + GIVERS + "def main ( ) { " + vars_text + statement + " }"))
    if what is None:
        return None
    assert what[1][:2] == (None, "main"), what
    return (what[0], what[1][2] - 2 * len(VARS))


class Fitting(unittest.TestCase):
    def only(self, pattern, kinds, at):
        """In the pattern's @ just values of these kinds are let; else "kind" is told at this index."""
        for kind in KINDS:
            statement = pattern.replace("@", VALUES[kind])
            with self.subTest(statement=statement):
                self.assertEqual(told(statement), None if kind in kinds else ("kind", at))
        # No value at all is wrong everywhere.
        self.assertEqual(told(pattern.replace("@", "( none ( ) )")), ("kind", at))


class Values(Fitting):
    def test_var(self):
        for kind, fitting in FITTING.items():
            self.only("var " + kind + " x = @ ;", fitting, 1)

    def test_set(self):
        for kind, fitting in FITTING.items():
            begin = "1" if kind == "int" else "true" if kind == "truth" else "nil"
            self.only("var " + kind + " x = " + begin + " ; x = @ ;", fitting, 3)

    def test_set_of_what_is_caught(self):
        self.only("try { } catch B x { x = @ ; }", FITTING["B"], 2)

    def test_put(self):
        self.only("a . n = @ ;", FITTING["int"], 2)
        self.only("b . a = @ ;", FITTING["A"], 2)
        self.only("d . r = @ ;", FITTING["row int"], 2)

    def test_place(self):
        self.only("ri [ 0 ] = @ ;", FITTING["int"], 3)
        self.only("rt [ 0 ] = @ ;", FITTING["text"], 3)
        self.only("ra [ 0 ] = @ ;", FITTING["A"], 3)
        self.only("rb [ 0 ] = @ ;", FITTING["B"], 3)
        self.only("rri [ 0 ] = @ ;", FITTING["row int"], 3)
        self.only("rra [ 0 ] = @ ;", FITTING["row A"], 3)

    def test_args(self):
        self.only('( eat ( @ , ri , "" ) ) ;', FITTING["A"], 2)
        self.only('( eat ( a , @ , "" ) ) ;', FITTING["row int"], 3)
        self.only("( eat ( a , ri , @ ) ) ;", FITTING["text"], 4)

    def test_args_of_an_ask(self):
        base = ("class F { def m ( int i , F f ) : int { return i ; } } def main ( ) { var F f = nil ; var A a = nil ; "
                "( f . m ( @ ) ) ; } ")
        for args, what in (("1 , f", None), ("1 , nil", None), ("nil , f", ("kind", (None, "main", 7))),
                           ("1 , a", ("kind", (None, "main", 8)))):
            self.assertEqual(check(read_program(CLASSES + base.replace("@", args))), what)

    def test_returned_values(self):
        for kind, fitting in FITTING.items():
            for given in KINDS:
                name = VALUES[given]
                params = given + " " + name if given not in ("int", "truth", "text", "nil") else ""
                text = "def f ( " + params + " ) : " + kind + " { return " + name + " ; } def main ( ) { }"
                expected = None if given in fitting else ("kind", (None, "f", 1))
                self.assertEqual(check(read_program(CLASSES + text)), expected, text)

    def test_a_value_that_is_none(self):
        self.assertIsNone(told("( none ( ) ) ;"))
        self.assertIsNone(told("( eat ( a , ri , nil ) ) ;"))
        for statement in ("show ( none ( ) ) ;", "throw ( none ( ) ) ;", "var int x = ( none ( ) ) ;"):
            self.assertEqual(told(statement), ("kind", 1))


class Tests(Fitting):
    def test_tests(self):
        self.only("if @ { } else { }", ("truth",), 1)
        self.only("while @ { }", ("truth",), 1)
        self.only("( not @ ) ;", ("truth",), 2)
        for sign in ("and", "or"):
            self.only("( @ " + sign + " true ) ;", ("truth",), 2)
            self.only("( true " + sign + " @ ) ;", ("truth",), 3)


class Operations(Fitting):
    def test_ints(self):
        for sign in ("-", "*", "/", "rem", "<"):
            self.only("( @ " + sign + " 1 ) ;", ("int",), 2)
            self.only("( 1 " + sign + " @ ) ;", ("int",), 3)

    def test_plus(self):
        self.only("( 1 + @ ) ;", ("int",), 3)
        self.only('( "" + @ ) ;', ("text", "nil"), 3)
        self.only("( nil + @ ) ;", ("text", "nil"), 3)
        for kind in KINDS:
            expected = None if kind in ("text", "nil") else ("kind", 3) if kind == "int" else ("kind", 2)
            self.assertEqual(told("( " + VALUES[kind] + " + nil ) ;"), expected)
            expected = None if kind == "int" else ("kind", 3) if kind in ("text", "nil") else ("kind", 2)
            self.assertEqual(told("( " + VALUES[kind] + " + 1 ) ;"), expected)
        self.assertEqual(told("( ( none ( ) ) + 1 ) ;"), ("kind", 2))

    def test_same(self):
        for first in KINDS:
            alike = {first}
            if first in REFERENCES or first == "nil":
                alike.add("nil")
            if first == "nil":
                alike.update(REFERENCES)
            for name in OBJECTS:
                if first in OBJECTS and (first in BELOW[name] or name in BELOW[first]):
                    alike.add(name)
            self.only("( " + VALUES[first] + " = @ ) ;", alike, 3)
        self.assertEqual(told("( ( none ( ) ) = 1 ) ;"), ("kind", 2))
        self.assertEqual(told("( ( none ( ) ) = ( none ( ) ) ) ;"), ("kind", 2))
        self.assertEqual(told("( nil = ( none ( ) ) ) ;"), ("kind", 3))

    def test_size_sign_tell(self):
        self.only("( size @ ) ;", ROWS + ("text", "nil"), 2)
        self.only("( @ sign 0 ) ;", ("text", "nil"), 2)
        self.only('( "x" sign @ ) ;', ("int",), 3)
        self.only("( tell @ ) ;", ("int",), 2)

    def test_is_and_as(self):
        for name, kinds in (("A", "ABCD"), ("B", "ABD"), ("C", "AC"), ("D", "ABD"), ("E", "E")):
            for word in ("is", "as"):
                self.only("( @ " + word + " " + name + " ) ;", tuple(kinds) + ("nil",), 2)


class Objects(Fitting):
    def test_objects_are_wanted(self):
        with_fields = ("A", "B", "C", "D")
        for pattern, at in (("( @ . n ) ;", 2), ("@ . n = 1 ;", 1)):
            for kind in KINDS:
                expected = None if kind in with_fields else ("kind", at)
                if kind == "E":
                    # E is a class, but has no such field: told at the get or put itself.
                    expected = ("name", at - 1)
                self.assertEqual(told(pattern.replace("@", VALUES[kind])), expected, (pattern, kind))
            self.assertEqual(told(pattern.replace("@", "( none ( ) )")), ("kind", at))

    def test_ask_wants_an_object(self):
        for kind in KINDS:
            expected = ("name", 1) if kind in OBJECTS else ("kind", 2)
            self.assertEqual(told("( " + VALUES[kind] + " . gone ( ) ) ;"), expected)
        self.assertEqual(told("( ( none ( ) ) . gone ( ) ) ;"), ("kind", 2))

    def test_rows_are_wanted(self):
        self.only("( @ [ 0 ] ) ;", ROWS, 2)
        self.only("( ri [ @ ] ) ;", ("int",), 3)
        self.only("ri [ @ ] = 1 ;", ("int",), 2)
        for kind in KINDS:
            what = told(VALUES[kind] + " [ 0 ] = ( none ( ) ) ;")
            self.assertEqual(what, ("kind", 3) if kind in ROWS else ("kind", 1))
        self.only("( row int [ @ ] ) ;", ("int",), 2)

    def test_throw(self):
        self.only("throw @ ;", OBJECTS + ("nil",), 1)

    def test_show(self):
        self.only("show @ ;", ("int", "truth", "text", "nil"), 1)

    def test_do(self):
        for kind in KINDS:
            self.assertIsNone(told(VALUES[kind] + " ;"))
        self.assertIsNone(told("( none ( ) ) ;"))


class KindsThatCome(unittest.TestCase):
    """The kind that each expression has: a var of it is let, one of another kind is not."""

    def test_each_expression(self):
        for expression, kind in (
            ("5", "int"), ("-5", "int"), ("true", "truth"), ('"a"', "text"), ("read", "int"), ("( a . n )", "int"),
            ("( d . a )", "A"), ("( a . r )", "row int"), ("( ri [ 0 ] )", "int"), ("( rb [ 0 ] )", "B"),
            ("( rra [ 0 ] )", "row A"), ("( ( rra [ 0 ] ) [ 1 ] )", "A"), ("( new D )", "D"),
            ("( row int [ 1 ] )", "row int"),
            ("( row row A [ 1 ] )", "row row A"), ("( row B [ 1 ] )", "row B"), ("( 1 + 2 )", "int"),
            ('( "" + "" )', "text"),
            ("( nil + nil )", "text"), ('( nil + "" )', "text"), ("( 1 - 2 )", "int"), ("( 1 * 2 )", "int"),
            ("( 1 / 2 )", "int"), ("( 1 rem 2 )", "int"), ("( 1 < 2 )", "truth"), ("( 1 = 2 )", "truth"),
            ("( true and true )", "truth"), ("( true or true )", "truth"), ("( not true )", "truth"),
            ("( a is B )", "truth"), ("( a as B )", "B"), ("( d as A )", "A"), ("( nil as E )", "E"),
            ("( size ri )", "int"),
            ('( "a" sign 0 )', "int"), ("( tell 1 )", "text"), ("ri", "row int"), ("e", "E"),
        ):
            with self.subTest(expression=expression):
                for other in KINDS:
                    if other == "nil":
                        continue
                    begin = "1" if other == "int" else "true" if other == "truth" else "nil"
                    what = told("var " + other + " x = " + begin + " ; x = " + expression + " ;")
                    fits = kind in FITTING[other]
                    self.assertEqual(what, None if fits else ("kind", 3), other)

    def test_calls_and_asks(self):
        text = ("class F { def m ( ) : F { return self ; } def n ( ) : int { return 1 ; } } class G above F { } "
                "def f ( ) : text { return nil ; } def main ( ) { @ } ")
        for statement, what in (
            ("var text x = ( f ( ) ) ;", None), ("var int x = ( f ( ) ) ;", ("kind", 1)),
            ("var F x = ( ( new G ) . m ( ) ) ;", None), ("var G x = ( ( new G ) . m ( ) ) ;", ("kind", 1)),
            ("var int x = ( ( new G ) . n ( ) ) ;", None), ("var truth x = ( ( new F ) . n ( ) ) ;", ("kind", 1)),
        ):
            expected = what and (what[0], (None, "main", what[1]))
            self.assertEqual(check(read_program(text.replace("@", statement))), expected)

    def test_self_is_of_the_class_in_which_the_method_stands(self):
        base = ("class F { def m ( ) : @ { return self ; } } class G above F { } "
                "class H above G { def k ( ) : G { return self ; } } ")
        for kind, what in (("F", None), ("G", ("kind", ("F", "m", 1)))):
            self.assertEqual(check(read_program(base.replace("@", kind) + "def main ( ) { }")), what)

    def test_params_and_caught_names(self):
        self.assertIsNone(told("try { } catch D x { a = x ; b = x ; d = x ; }"))
        self.assertEqual(told("try { } catch D x { c = x ; }"), ("kind", 2))
        text = "def f ( text s , row A r ) { s = nil ; r [ 0 ] = nil ; s = ( r [ 0 ] ) ; } def main ( ) { }"
        self.assertEqual(check(read_program(CLASSES + text)), ("kind", (None, "f", 7)))


if __name__ == "__main__":
    unittest.main()
