"""check and checked: what is wrong first, and where (point 8)."""

import unittest

from movedrun.checks import check, checked
from movedrun.errors import BadForm, NotLetBy
from movedrun.programs import read_program
from tests.building import EXAMPLE, EXAMPLE_TEXT, WHOLE, program_of

MAIN = "def main ( ) { } "
TREE = (
    "class A { int n ; A next ; def get ( int i ) : int { return i ; } def act ( ) { } } "
    "class B above A { text s ; } class C { row int r ; } "
)


class Checking(unittest.TestCase):
    def told(self, text, expected):
        """What check tells of a text's program; checked must tell just the same."""
        with self.subTest(text=text):
            program = read_program(text)
            self.assertEqual(check(program), expected)
            if expected is None:
                self.assertIsNone(checked(program))
                return
            with self.assertRaises(NotLetBy) as caught:
                checked(program)
            self.assertEqual(caught.exception.what, expected)

    def right(self, *texts):
        for text in texts:
            self.told(text, None)

    def in_main(self, body, expected):
        """expected is a word and an index, or None."""
        self.told(TREE + "def main ( ) { " + body + " }", expected and (expected[0], (None, "main", expected[1])))

    def right_in_main(self, *bodies):
        for body in bodies:
            self.in_main(body, None)

    def in_both(self, body, expected):
        """The same in a function and in a method, each with a param p and an int as result."""
        head = "def f ( int p ) : int { " + body + " } "
        self.told(TREE + MAIN + head, expected and (expected[0], (None, "f", expected[1])))
        self.told(TREE + "class Z { " + head + " } " + MAIN, expected and (expected[0], ("Z", "f", expected[1])))


class Whole(Checking):
    def test_right_programs(self):
        self.right(EXAMPLE_TEXT, MAIN, TREE + MAIN)
        self.assertIsNone(check(EXAMPLE))
        self.assertIsNone(checked(EXAMPLE))

    def test_what_is_no_program(self):
        for thing in (None, True, 1, "", EXAMPLE_TEXT, (), ((), []), ((), ((),)), {}, list(EXAMPLE), object()):
            for ask in (check, checked):
                with self.assertRaises(BadForm):
                    ask(thing)
        for ask in (check, checked):
            with self.assertRaises(BadForm):
                ask(program_of(("show", ("int", True))))

    def test_arguments_by_name(self):
        self.assertIsNone(check(program=EXAMPLE))
        self.assertIsNone(checked(program=EXAMPLE))
        self.assertEqual(check(program=((), ())), ("main", (None, None, None)))

    def test_equal_calls_and_nothing_kept(self):
        before = repr(WHOLE)
        first = check(WHOLE)
        self.assertEqual(check(WHOLE), first)
        self.assertIsNone(check(EXAMPLE))
        self.assertEqual(check(WHOLE), first)
        self.assertEqual(repr(WHOLE), before)

    def test_the_forms_of_what_is_told(self):
        for text in ("", "class A { } class A { }", "def main ( ) { x = 1 ; }"):
            what = check(read_program(text))
            self.assertIs(type(what), tuple)
            self.assertIs(type(what[1]), tuple)
            self.assertEqual((len(what), len(what[1])), (2, 3))


class Classes(Checking):
    def test_double_class(self):
        self.told("class A { } class B { } class A { } " + MAIN, ("double", ("A", None, None)))
        self.told("class A { } class A above X { int f ; int f ; } " + MAIN, ("double", ("A", None, None)))

    def test_no_such_class_above(self):
        self.told("class A above B { } " + MAIN, ("class", ("A", None, None)))
        self.told("class A { } class C above main { } " + MAIN, ("class", ("C", None, None)))
        self.right("class A above B { } class B { } " + MAIN, "class B { } class A above B { } " + MAIN)

    def test_class_above_itself(self):
        self.told("class A above A { } " + MAIN, ("class", ("A", None, None)))
        self.told("class A above B { } class B above A { } " + MAIN, ("class", ("A", None, None)))
        self.told("class A above B { } class B above C { } class C above A { } " + MAIN, ("class", ("A", None, None)))

    def test_only_those_in_the_ring_are_wrong(self):
        self.told("class D above B { int f ; } class B above C { } class C above B { } " + MAIN,
                  ("class", ("B", None, None)))
        self.told("class D above E { int f ; } class E above E { } " + MAIN, ("class", ("E", None, None)))
        self.told("class D above E { int f ; } class E above E { int f ; } " + MAIN, ("double", ("D", None, None)))
        self.told("class D above B { } class B above X { } " + MAIN, ("class", ("B", None, None)))

    def test_double_fields(self):
        self.told("class A { int f ; text f ; } " + MAIN, ("double", ("A", None, None)))
        self.told("class A { int f ; } class B above A { text f ; } " + MAIN, ("double", ("B", None, None)))
        self.told("class B above A { text f ; } class A { int f ; } " + MAIN, ("double", ("B", None, None)))
        self.told("class C above B { int f ; } class B above A { } class A { text f ; } " + MAIN,
                  ("double", ("C", None, None)))
        self.told("class A { int g ; int f ; } class B above A { } class C above B { int f ; } " + MAIN,
                  ("double", ("C", None, None)))
        self.right("class A { int f ; } class B { int f ; } class C above A { int g ; } " + MAIN)

    def test_a_field_of_a_class_below_is_no_double(self):
        self.told("class A { int f ; X g ; } class B above A { int f ; } " + MAIN, ("class", ("A", None, None)))

    def test_kinds_of_fields(self):
        self.told("class A { B f ; } " + MAIN, ("class", ("A", None, None)))
        self.told("class A { int g ; row row B f ; } " + MAIN, ("class", ("A", None, None)))
        self.right("class A { B f ; row row A g ; } class B { row row row B f ; A g ; } " + MAIN)

    def test_sequence_within_classes(self):
        # Name, above, then field by field, its name ahead of its kind.
        self.told("class A { } class B above X { X f ; } class A { } " + MAIN, ("class", ("B", None, None)))
        self.told("class A above A { int f ; int f ; } " + MAIN, ("class", ("A", None, None)))
        self.told("class A { int f ; X f ; } " + MAIN, ("double", ("A", None, None)))
        self.told("class A { X f ; int f ; } " + MAIN, ("class", ("A", None, None)))
        self.told("class A { X f ; } class B { int f ; int f ; } " + MAIN, ("class", ("A", None, None)))
        self.told("class A { int f ; int f ; } class B { X f ; } " + MAIN, ("double", ("A", None, None)))

    def test_the_first_class_of_a_name_is_meant(self):
        self.told("class B above A { int f ; } class A { int f ; } class A { } " + MAIN, ("double", ("B", None, None)))
        self.told("class B above A { int f ; } class A { } class A { int f ; } " + MAIN, ("double", ("A", None, None)))
        self.told("class B above A { } class A { } class A above B { } " + MAIN, ("double", ("A", None, None)))

    def test_classes_are_looked_at_ahead_of_heads(self):
        self.told("class A { def m ( ) { } def m ( ) { } } class B { X f ; } def f ( ) { } def f ( ) { } ",
                  ("class", ("B", None, None)))

    def test_names_of_their_own(self):
        self.right("class main { int main ; def main ( int main ) { main = 1 ; } } " + MAIN)
        self.right("class A { int x ; def x ( ) { } } def A ( ) { } "
                   "def x ( A x ) { ( x . x ( ) ) ; x . x = ( x . x ) ; } " + MAIN)


class Heads(Checking):
    def test_double_functions(self):
        self.told("def f ( ) { } def f ( int a ) { } " + MAIN, ("double", (None, "f", None)))
        self.told(MAIN + MAIN, ("double", (None, "main", None)))

    def test_double_methods(self):
        self.told("class A { def m ( ) { } def n ( ) { } def m ( ) { } } " + MAIN, ("double", ("A", "m", None)))
        self.right("class A { def m ( ) { } } class B { def m ( int a ) { } } def m ( ) { } " + MAIN)

    def test_params(self):
        self.told("def f ( int a , text b , int a ) { } " + MAIN, ("double", (None, "f", None)))
        self.told("class A { def m ( int a , int a ) { } } " + MAIN, ("double", ("A", "m", None)))
        self.told("def f ( int a , row X b ) { } " + MAIN, ("class", (None, "f", None)))
        self.told("class A { def m ( X a ) { } } " + MAIN, ("class", ("A", "m", None)))
        self.right("class A { def m ( A a , row B b ) { } } class B { } def f ( B a ) { } " + MAIN)

    def test_results(self):
        self.told("def f ( ) : X { return nil ; } " + MAIN, ("class", (None, "f", None)))
        self.told("class A { def m ( ) : row row X { return nil ; } } " + MAIN, ("class", ("A", "m", None)))

    def test_override(self):
        above = "class A { def m ( int a ) : int { return a ; } } "
        self.told(above + "class B above A { def m ( text a ) : int { return 1 ; } } " + MAIN,
                  ("override", ("B", "m", None)))
        self.told(above + "class B above A { def m ( ) : int { return 1 ; } } " + MAIN, ("override", ("B", "m", None)))
        self.told(above + "class B above A { def m ( int a ) { } } " + MAIN, ("override", ("B", "m", None)))
        self.told(above + "class B above A { def m ( int a ) : text { return nil ; } } " + MAIN,
                  ("override", ("B", "m", None)))
        self.told(above + "class B above A { def m ( int a , int b ) : int { return a ; } } " + MAIN,
                  ("override", ("B", "m", None)))
        self.right(above + "class B above A { def m ( int b ) : int { return b ; } def n ( ) { } } " + MAIN)
        self.right(above + "class B { def m ( text a ) { } } " + MAIN)

    def test_override_of_one_further_above(self):
        top = "class A { def m ( ) { } } "
        low = "class C above B { def m ( int a ) { } } "
        self.told(top + "class B above A { } " + low + MAIN, ("override", ("C", "m", None)))
        self.told(low + "class B above A { } " + top + MAIN, ("override", ("C", "m", None)))
        self.told(low + "class B above A { def m ( int a ) { } } " + top + MAIN, ("override", ("C", "m", None)))
        self.told(top + "class B above A { def m ( int a ) { } } " + low + MAIN, ("override", ("B", "m", None)))

    def test_override_in_classes_of_kinds(self):
        head = "class X { } class Y above X { } class A { def m ( X a ) : X { return a ; } } "
        self.told(head + "class B above A { def m ( Y a ) : X { return a ; } } " + MAIN, ("override", ("B", "m", None)))
        self.told(head + "class B above A { def m ( X a ) : Y { return nil ; } } " + MAIN,
                  ("override", ("B", "m", None)))
        self.right(head + "class B above A { def m ( X q ) : X { return q ; } } " + MAIN)

    def test_sequence_within_a_head(self):
        # Name, params one by one, result, override.
        self.told("def f ( ) { } def f ( int a , X a ) : X { } " + MAIN, ("double", (None, "f", None)))
        self.told("def f ( X a , int a ) : X { } " + MAIN, ("class", (None, "f", None)))
        self.told("def f ( int a , X a ) : X { } " + MAIN, ("double", (None, "f", None)))
        self.told("class A { def m ( ) { } } class B above A { def m ( int a , int a ) { } } " + MAIN,
                  ("double", ("B", "m", None)))
        self.told("class A { def m ( ) { } } class B above A { def m ( int a ) : X { } } " + MAIN,
                  ("class", ("B", "m", None)))
        self.told("class A { def m ( ) { } } class B above A { def m ( int a ) { } def m ( ) { } } " + MAIN,
                  ("override", ("B", "m", None)))
        self.told("class A { def m ( ) { } } class B above A { def m ( ) { } def m ( int a ) { } } " + MAIN,
                  ("double", ("B", "m", None)))

    def test_methods_by_classes_then_functions(self):
        self.told("class A { def m ( X a ) { } } class B { def n ( int a , int a ) { } } def f ( X a ) { } " + MAIN,
                  ("class", ("A", "m", None)))
        self.told("class A { } class B { def n ( int a , int a ) { } } def f ( X a ) { } " + MAIN,
                  ("double", ("B", "n", None)))
        self.told("class A { def m ( ) { } def n ( X a ) { } } def f ( ) : X { } def f ( ) { } ",
                  ("class", ("A", "n", None)))
        self.told("def f ( ) : X { } def f ( ) { } ", ("class", (None, "f", None)))

    def test_main(self):
        for text in ("", "class main { }", "class A { def main ( ) { } } ", "def f ( ) { }", "def main ( int a ) { }",
                     "def main ( ) : int { return 1 ; }", "def Main ( ) { }"):
            self.told(text, ("main", (None, None, None)))

    def test_heads_are_ahead_of_main_and_main_of_bodies(self):
        self.told("def f ( X a ) { }", ("class", (None, "f", None)))
        self.told("def f ( ) { x = 1 ; }", ("main", (None, None, None)))
        self.told("class A { def m ( ) : int { } }", ("main", (None, None, None)))
        self.told("def f ( ) { x = 1 ; } def main ( ) { } def g ( X a ) { }", ("class", (None, "g", None)))


class Bodies(Checking):
    def test_sequence_of_bodies(self):
        wrong = "{ x = 1 ; }"
        self.told("class A { def m ( ) { } def n ( ) " + wrong + " } class B { def m ( ) " + wrong + " } "
                  "def main ( ) " + wrong,
                  ("name", ("A", "n", 0)))
        self.told("class A { } class B { def m ( ) " + wrong + " } def main ( ) " + wrong, ("name", ("B", "m", 0)))
        self.told("class A { } def main ( ) " + wrong + " def f ( ) " + wrong, ("name", (None, "main", 0)))
        self.told("def f ( ) " + wrong + " def main ( ) " + wrong, ("name", (None, "f", 0)))

    def test_the_end_of_a_body_is_looked_at_last_in_it(self):
        self.in_both("p = true ;", ("kind", 1))
        self.in_both("p = 1 ;", ("result", None))
        self.told("def f ( ) : int { } def main ( ) { x = 1 ; }", ("result", (None, "f", None)))
        self.told("def main ( ) { x = 1 ; } def f ( ) : int { }", ("name", (None, "main", 0)))

    def test_indexes_go_by_the_text(self):
        # var 0, 1 1, if 2, ( 3, p 4, 2 5, while 6, true 7, return 8, 9, else: show 10, text 11, throw 12, nil 13
        body = ("var int i = 1 ; if ( i < {a} ) {{ while true {{ return {b} ; }} }} "
                "else {{ show {c} ; throw {d} ; }} return {e} ;")
        right = {"a": "2", "b": "1", "c": '"x"', "d": "nil", "e": "3"}
        self.in_both(body.format(**right), None)
        for spot, at in (("a", 5), ("b", 9), ("c", 11), ("d", 13), ("e", 15)):
            self.in_both(body.format(**{**right, spot: "gone"}), ("name", at))

    def test_indexes_of_parts(self):
        for text, at in (
            ("show ( 1 + ( 2 * gone ) ) ;", 5),
            ("show ( ( 1 + 2 ) * gone ) ;", 5),
            ("show ( get ( 1 , 2 , gone ) ) ;", 1),
            ("( ( new A ) . get ( gone ) ) ;", 3),
            ("( new A ) . n = gone ;", 2),
            ("( row int [ 1 ] ) [ 2 ] = gone ;", 4),
            ("( row int [ 1 ] ) [ gone ] = 3 ;", 3),
            ("show ( ( row int [ 1 ] ) [ gone ] ) ;", 4),
            ('show ( "a" sign gone ) ;', 3),
            ("show ( not gone ) ;", 2),
            ("try { show 1 ; } catch A e { show gone ; }", 4),
            ("if true { } else { show gone ; }", 3),
            ("while true { show gone ; }", 3),
            ("show 1 ; return ; show true ; return ; show gone ;", 7),
            ("show read ; show nil ; gone ;", 5),
        ):
            self.in_main(text, ("name", at))

    def test_names(self):
        self.in_both("return p ;", None)
        self.in_both("return q ;", ("name", 1))
        self.in_both("q = p ; return p ;", ("name", 0))
        self.in_both("p = 2 ; return p ;", None)
        self.in_main("show main ;", ("name", 1))
        self.in_main("show A ;", ("name", 1))

    def test_set_is_looked_at_ahead_of_its_value(self):
        self.in_main("x = ( gone ( ) ) ;", ("name", 0))

    def test_reach(self):
        self.in_main("var int x = x ;", ("name", 1))
        self.in_main("show x ; var int x = 1 ;", ("name", 1))
        self.in_main("if true { var int x = 1 ; show x ; } else { show x ; }", ("name", 7))
        self.in_main("if true { var int x = 1 ; } else { var int x = 2 ; } var int x = 3 ; show x ;", None)
        self.in_main("if true { var int x = 1 ; } else { } show x ;", ("name", 5))
        self.in_main("while true { var int x = 1 ; } x = 2 ;", ("name", 4))
        self.in_main("try { var int x = 1 ; } catch A e { show x ; }", ("name", 4))
        self.in_main("try { show e ; } catch A e { }", ("name", 2))
        self.in_main("try { } catch A e { } show e ;", ("name", 2))
        self.in_main("try { } catch A e { var A x = e ; e = x ; e = ( new B ) ; } try { } catch B e { }", None)
        self.in_main("var int x = 1 ; while true { x = 2 ; if true { x = 3 ; } else { } }", None)
        self.in_main("if true { var int x = 1 ; var int y = x ; } else { } var int x = 1 ; show ( x + y ) ;",
                     ("name", 11))

    def test_double_vars(self):
        self.in_both("var int p = 1 ; return p ;", ("double", 0))
        self.in_main("var int x = 1 ; var text x = nil ;", ("double", 2))
        self.in_main("var int x = 1 ; if true { var int x = 2 ; } else { }", ("double", 4))
        self.in_main("try { } catch A e { var int e = 1 ; }", ("double", 1))
        self.in_main("var int x = 1 ; try { } catch A x { }", ("double", 2))
        self.in_main("try { } catch A e { try { } catch A e { } }", ("double", 1))
        self.in_main("try { var int e = 1 ; } catch A e { var int f = 1 ; } var int f = 2 ; var int e = 3 ;", None)
        self.in_both("try { } catch A p { } return p ;", ("double", 0))

    def test_classes_in_bodies(self):
        self.in_main("var X x = nil ;", ("class", 0))
        self.in_main("var row row X x = nil ;", ("class", 0))
        self.in_main("var int x = 1 ; var X x = nil ;", ("double", 2))
        self.in_main("var X x = gone ;", ("class", 0))
        self.in_main("( new X ) ;", ("class", 1))
        self.in_main("( row X [ gone ] ) ;", ("class", 1))
        self.in_main("( row row X [ 1 ] ) ;", ("class", 1))
        self.in_main("( gone is X ) ;", ("class", 1))
        self.in_main("( gone as X ) ;", ("class", 1))
        self.in_main("try { show gone ; } catch X e { }", ("class", 0))
        self.in_main("var int x = 1 ; try { } catch X x { }", ("class", 2))
        self.in_main("var int x = 1 ; try { show gone ; } catch A x { }", ("double", 2))
        self.in_main("var int X = 1 ; ( new X ) ;", ("class", 3))
        self.right_in_main("( new A ) ; ( row row B [ 1 ] ) ; ( nil is C ) ; ( nil as C ) ; try { } catch C e { }")

    def test_self(self):
        self.told("def main ( ) { show self ; }", ("name", (None, "main", 1)))
        self.told("def f ( int a ) { a = ( self . n ) ; } " + MAIN, ("name", (None, "f", 2)))
        self.right("class A { int n ; def m ( A a ) : A { "
                   "self . n = ( self . n ) ; ( self . m ( self ) ) ; return self ; } } " + MAIN)
        self.told("class A { def m ( ) { self . n = 1 ; } } " + MAIN, ("name", ("A", "m", 0)))
        self.told("class A { def m ( ) { show self ; } } " + MAIN, ("kind", ("A", "m", 1)))

    def test_calls(self):
        more = "def go ( int a , text b ) : int { return a ; } "
        for body, expected in (
            ('( go ( 1 , "x" ) ) ;', None), ("( go ( 1 , nil ) ) ;", None), ("( gone ( ) ) ;", ("name", 1)),
            ("( gone ( gone ) ) ;", ("name", 1)), ("( go ( ) ) ;", ("count", 1)), ("( go ( 1 ) ) ;", ("count", 1)),
            ("( go ( 1 , nil , 2 ) ) ;", ("count", 1)), ("( go ( gone ) ) ;", ("count", 1)),
            ("( go ( gone , 1 ) ) ;", ("name", 2)), ("( go ( nil , gone ) ) ;", ("kind", 2)),
            ("( go ( 1 , 2 ) ) ;", ("kind", 3)), ("( go ( ( go ( 1 , nil ) ) , 2 ) ) ;", ("kind", 5)),
            ("( main ( ) ) ;", None), ("( get ( 1 ) ) ;", ("name", 1)),
        ):
            self.told(TREE + more + "def main ( ) { " + body + " }",
                      expected and (expected[0], (None, "main", expected[1])))

    def test_asks(self):
        self.in_main("( ( new A ) . get ( 1 ) ) ;", None)
        self.in_main("( ( new B ) . get ( 1 ) ) ; ( ( new B ) . act ( ) ) ;", None)
        self.in_main("( ( new C ) . get ( 1 ) ) ;", ("name", 1))
        self.in_main("( ( new A ) . n ( ) ) ;", ("name", 1))
        self.in_main("( ( new A ) . main ( ) ) ;", ("name", 1))
        self.in_main("( ( new A ) . gone ( gone ) ) ;", ("name", 1))
        self.in_main("( gone . gone ( ) ) ;", ("name", 2))
        self.in_main("( 1 . get ( gone ) ) ;", ("kind", 2))
        self.in_main("( ( new A ) . get ( ) ) ;", ("count", 1))
        self.in_main("( ( new A ) . get ( gone , gone ) ) ;", ("count", 1))
        self.in_main("( ( new A ) . get ( true ) ) ;", ("kind", 3))
        self.in_main("( ( new A ) . act ( 1 ) ) ;", ("count", 1))

    def test_fields(self):
        self.in_main("show ( ( new A ) . n ) ; ( ( new B ) . s ) ; ( ( new B ) . n ) ; ( ( ( new B ) . next ) . n ) ;",
                     None)
        self.in_main("( ( new A ) . s ) ;", ("name", 1))
        self.in_main("( ( new A ) . get ) ;", ("name", 1))
        self.in_main("( ( ( new B ) . next ) . s ) ;", ("name", 1))
        self.in_main("( gone . gone ) ;", ("name", 2))
        self.in_main("( 1 . gone ) ;", ("kind", 2))
        self.in_main("( new A ) . s = gone ;", ("name", 0))
        self.in_main("( new A ) . n = nil ;", ("kind", 2))
        self.in_main("1 . gone = gone ;", ("kind", 1))
        self.in_main("show 1 ; ( new B ) . gone = gone ;", ("name", 2))

    def test_own_method_ahead_of_the_one_above(self):
        self.right("class A { def m ( ) : int { return 1 ; } } class B above A { def m ( ) : int { return 2 ; } } "
                   "def main ( ) { show ( ( new B ) . m ( ) ) ; }")

    def test_returns(self):
        self.in_both("return ;", ("result", 0))
        self.in_both("return true ;", ("kind", 1))
        self.in_both("show 1 ; return ( 1 + gone ) ;", ("name", 5))
        self.in_main("return ;", None)
        self.in_main("return 1 ;", ("result", 0))
        self.in_main("return gone ;", ("result", 0))
        self.in_main("if true { return ; return nil ; } else { }", ("result", 3))
        self.told("class A { def m ( ) { return nil ; } } " + MAIN, ("result", ("A", "m", 0)))
        self.right("class A { def m ( ) { return ; } def n ( ) : A { return nil ; } } " + MAIN)

    def test_which_of_two_wrong_parts(self):
        # A part wholly and its kind, ahead of the next part.
        self.in_main("show ( true + gone ) ;", ("kind", 2))
        self.in_main("show ( ( 1 + true ) + gone ) ;", ("kind", 4))
        self.in_main("if 1 { show gone ; } else { }", ("kind", 1))
        self.in_main("while 1 { show gone ; }", ("kind", 1))
        self.in_main("1 [ gone ] = gone ;", ("kind", 1))
        self.in_main("( row int [ 1 ] ) [ true ] = gone ;", ("kind", 3))
        self.in_main("( 1 [ gone ] ) ;", ("kind", 2))
        self.in_main("( true sign gone ) ;", ("kind", 2))
        self.in_main("( 1 and gone ) ;", ("kind", 2))
        self.in_main("( nil < gone ) ;", ("kind", 2))
        self.in_main("( gone = ( main ( ) ) ) ;", ("name", 2))
        self.in_main("( ( main ( ) ) = gone ) ;", ("kind", 2))

    def test_what_follows_an_end_is_looked_at(self):
        self.in_main("return ; show gone ;", ("name", 2))
        self.in_main("throw nil ; show gone ;", ("name", 3))
        self.in_main("while true { } show gone ;", ("name", 3))


class Ends(Checking):
    """Bodies of which the end can be come to, and of which it can not."""

    def ended(self, *bodies):
        for body in bodies:
            self.in_both(body, None)

    def open_ended(self, *bodies):
        for body in bodies:
            self.in_both(body, ("result", None))

    def test_ended(self):
        self.ended(
            "return 1 ;", "throw nil ;", "throw nil ; show 1 ;", "return 1 ; show 1 ;", "while true { }",
            "show 1 ; return p ;", "if true { return 1 ; } else { return 2 ; }",
            "if true { return 1 ; } else { throw nil ; }",
            "if true { while true { } } else { return 2 ; }", "try { return 1 ; } catch A e { throw e ; }",
            "try { while true { } } catch A e { return 1 ; show 1 ; }", "while true { show 1 ; p = 2 ; }",
            "if true { if true { return 1 ; } else { return 2 ; } } "
            "else { try { throw nil ; } catch A e { return 1 ; } }",
            "if true { return 1 ; } else { return 2 ; } show 3 ;", "while false { } return 1 ;",
        )

    def test_open_ended(self):
        self.open_ended(
            "", "show 1 ;", "show true ;", "true ;", "var truth t = true ;", "while false { return 1 ; }",
            "while ( not false ) { }",
            "while ( true and true ) { return 1 ; }",
            "if true { return 1 ; } else { }", "if true { } else { return 1 ; }", "if true { } else { }",
            "try { return 1 ; } catch A e { }", "try { } catch A e { return 1 ; }", "try { } catch A e { }",
            "var truth t = true ; while t { return 1 ; }", "while ( p < 1 ) { throw nil ; }",
            "if true { while false { return 1 ; } } else { return 1 ; }", "while ( 1 = 1 ) { }", "read ;",
        )

    def test_without_a_result_every_end_is_right(self):
        self.right_in_main("", "return ;", "if true { return ; } else { }", "while true { }", "throw nil ;")
        self.right("class A { def m ( ) { } } " + MAIN)


if __name__ == "__main__":
    unittest.main()
