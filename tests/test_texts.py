"""write_program and read_program: texts there and back, and where a text does not fit (point 7)."""

import random
import unittest

from movedrun.errors import BadForm, BadText
from movedrun.programs import is_program, read_program, write_program
from tests.building import (
    EXAMPLE, EXAMPLE_TEXT, EXPRESSIONS, STATEMENTS, WHOLE, WHOLE_TEXT, packed, program_of, spread, stretched, with_kind
)

HEAD = "def main ( ) { "
TAIL = " }"


def place_of(text):
    """Where read_program says that a text does not fit; None if it is read."""
    try:
        read_program(text)
    except BadText as wrong:
        return wrong.place
    return None


class ThereAndBack(unittest.TestCase):
    def both(self, program, text):
        with self.subTest(text=text):
            self.assertEqual(write_program(program), text)
            self.assertEqual(read_program(text), program)
            self.assertIs(is_program(read_program(text)), True)

    def test_empty(self):
        self.both(((), ()), "")
        for text in (" ", "\n", " \n  \n\n "):
            self.assertEqual(read_program(text), ((), ()))

    def test_example(self):
        self.both(EXAMPLE, EXAMPLE_TEXT)

    def test_whole(self):
        self.both(WHOLE, WHOLE_TEXT)

    def test_each_statement(self):
        for statement, text in STATEMENTS:
            self.both(program_of(statement), HEAD + text + TAIL)

    def test_each_expression(self):
        for expression, text in EXPRESSIONS:
            self.both(program_of(("do", expression)), HEAD + text + " ;" + TAIL)
            self.both(program_of(("return", expression)), HEAD + "return " + text + " ;" + TAIL)
            self.both(program_of(("while", expression, ())), HEAD + "while " + text + " { }" + TAIL)
            inner = ("op", "-", expression, expression)
            self.both(program_of(("show", inner)), HEAD + "show ( " + text + " - " + text + " ) ;" + TAIL)

    def test_classes(self):
        self.both(((("A", None, (), ()),), ()), "class A { }")
        self.both(((("A", "B", (), ()),), ()), "class A above B { }")
        self.both(((("A", None, (("f", "int"),), ()),), ()), "class A { int f ; }")
        self.both(((("A", None, (), (("m", (), None, ()),)),), ()), "class A { def m ( ) { } }")
        self.both(
            ((("A", None, (("f", ("of", "B")), ("g", "text")), (("m", (), None, ()), ("n", (), "int", ()))),), ()),
            "class A { B f ; text g ; def m ( ) { } def n ( ) : int { } }",
        )

    def test_functions(self):
        self.both(((), (("f", (), None, ()), ("g", (), None, ()))), "def f ( ) { } def g ( ) { }")
        self.both(((), (("f", (("p", "int"),), "text", ()),)), "def f ( int p ) : text { }")
        params = (("p", "truth"), ("q", ("row", ("of", "A"))), ("r", "text"))
        self.both(((), (("f", params, ("row", "int"), ()),)), "def f ( truth p , row A q , text r ) : row int { }")

    def test_kinds(self):
        for kind, text in (
            ("int", "int"), ("truth", "truth"), ("text", "text"), (("of", "A"), "A"), (("row", "int"), "row int"),
            (("row", ("row", ("row", ("of", "A")))), "row row row A"),
        ):
            self.both(with_kind(kind), HEAD + "var " + text + " x = nil ;" + TAIL)
            self.both(((("C", None, (("f", kind),), ()),), ()), "class C { " + text + " f ; }")
            self.both(((), (("f", (("p", kind),), kind, ()),)), "def f ( " + text + " p ) : " + text + " { }")

    def test_arguments_by_name(self):
        self.assertEqual(write_program(program=EXAMPLE), EXAMPLE_TEXT)
        self.assertEqual(read_program(text=EXAMPLE_TEXT), EXAMPLE)

    def test_kinds_of_values(self):
        self.assertIs(type(write_program(EXAMPLE)), str)
        found = read_program(HEAD + "true ; 1 ; false ; 0 ; }")
        self.assertEqual([type(part[1][1]) for part in found[1][0][3]], [bool, int, bool, int])


class Blanks(unittest.TestCase):
    def test_only_where_they_are_needed(self):
        for program, text in ((EXAMPLE, EXAMPLE_TEXT), (WHOLE, WHOLE_TEXT)):
            self.assertLess(len(packed(text)), len(text))
            self.assertEqual(read_program(packed(text)), program)

    def test_many_everywhere(self):
        for program, text in ((EXAMPLE, EXAMPLE_TEXT), (WHOLE, WHOLE_TEXT)):
            self.assertEqual(read_program(stretched(text)), program)

    def test_none_within_words(self):
        # Each of these would be right without the blank or line feed.
        self.assertEqual(place_of("def ma in ( ) { }"), 7)
        self.assertEqual(place_of("de f main ( ) { }"), 0)
        self.assertEqual(place_of(HEAD + "show - 5 ;" + TAIL), 20)
        self.assertEqual(place_of(HEAD + "show -\n5 ;" + TAIL), 20)
        self.assertEqual(place_of(HEAD + "show 1 2 ;" + TAIL), 22)
        self.assertEqual(place_of(HEAD + "show tr ue ;" + TAIL), 23)

    def test_words_that_run_together(self):
        self.assertEqual(place_of("defmain ( ) { }"), 0)
        self.assertEqual(place_of(HEAD + "showx ;" + TAIL), None)
        self.assertEqual(place_of(HEAD + "show1 = 2 ;" + TAIL), None)
        self.assertEqual(place_of(HEAD + "x=5rem ;" + TAIL), 17)
        self.assertEqual(read_program(HEAD + '("a"rem"b");' + TAIL),
                         program_of(("do", ("op", "rem", ("text", "a"), ("text", "b")))))
        self.assertEqual(read_program(HEAD + 'show"a";' + TAIL), program_of(("show", ("text", "a"))))

    def test_blanks_in_a_text_are_its_own(self):
        self.assertEqual(read_program(HEAD + 'show "  a  ";' + TAIL), program_of(("show", ("text", "  a  "))))

    def test_minus(self):
        one = ("int", 1)
        for text, expression in (
            ("(1-5)", ("op", "-", one, ("int", 5))),
            ("(1 -5)", ("op", "-", one, ("int", 5))),
            ("(1- 5)", ("op", "-", one, ("int", 5))),
            ("(1--5)", ("op", "-", one, ("int", -5))),
            ("(1 - -5)", ("op", "-", one, ("int", -5))),
            ("(-1-5)", ("op", "-", ("int", -1), ("int", 5))),
            ("(x-y)", ("op", "-", ("name", "x"), ("name", "y"))),
            ("(f(-1,-2))", ("call", "f", (("int", -1), ("int", -2)))),
            ("(x[-1])", ("at", ("name", "x"), ("int", -1))),
            ("(not-1)", ("not", ("int", -1))),
        ):
            self.assertEqual(read_program(HEAD + "do1=" + text + ";" + TAIL), program_of(("set", "do1", expression)))

    def test_other_gaps_are_no_blanks(self):
        for gap in ("\t", "\r", "\x0b", "\x0c", "_", "#"):
            self.assertEqual(place_of(gap), 0)
            self.assertEqual(place_of("def" + gap + "main ( ) { }"), 3)
            self.assertEqual(place_of("def main ( ) { }" + gap), 16)


class Marked(unittest.TestCase):
    """In these texts a ^ stands ahead of the word that does not fit."""

    def wrong(self, *marked):
        for text in marked:
            with self.subTest(text=text):
                place = text.index("^")
                self.assertEqual(place_of(text[:place] + text[place + 1:]), place)

    def wrong_in_body(self, *marked):
        self.wrong(*[HEAD + text for text in marked])
        self.wrong(*["class A { int f ; def m ( int p ) : text { " + text for text in marked])

    def wrong_expressions(self, *marked):
        for text in marked:
            self.wrong_in_body("show " + text, "x = " + text, "while " + text, "return ( " + text, "x . f = " + text)
            self.wrong_in_body("( 1 + " + text, "x [ " + text, "( not " + text, "( f ( 1 , " + text, "( " + text)


class Words(Marked):
    def test_signs_that_are_no_words(self):
        for sign in "!#$&'>?@\\_`|~\t\r":
            self.wrong("^" + sign, "^" + sign + " class A { }", "class A { } ^" + sign, "class A { ^" + sign + " }")
            self.wrong("class A { int f^" + sign + " ; }", "class ^" + sign + "A { }")
            self.wrong_expressions("^" + sign, "^" + sign + " 1", "^-" + sign + "1")
            self.wrong_in_body("^" + sign, "( 1 + 2 ^" + sign, "( 1 ^" + sign + " 2 ) ;")

    def test_runs_that_are_no_names(self):
        self.wrong("class ^abcdefghi { }", "class ^1a { }", "def ^abcdefghi", "def ^0 ( ) { }", "class A above ^9 { }")
        self.wrong("class A { ^abcdefghi f ; }", "class A { int ^abcdefghi ; }", "^abcdefghi", "^main ( ) { }", "^7")
        self.wrong_expressions("^abcdefghi", "^1a", "^12345678x", "^1x = 2", "^0x1", "( x . ^abcdefghi )")

    def test_words_of_the_language_are_no_names(self):
        self.wrong("class ^class { }", "def ^read ( ) { }", "class A above ^self { }", "class A { int ^row ; }")
        self.wrong("class A { ^if f ; }", "def f ( int ^text ) { }", "def f ( ^nil x ) { }", "def f ( ) : ^self { }")
        self.wrong_expressions("^above", "^and", "^as", "^catch", "^class", "^def", "^else", "^is", "^or")
        self.wrong_expressions("^rem", "^sign", "^int", "^truth", "^text", "^var", "^if", "^while", "( x . ^size )")
        self.wrong_in_body("^else", "^catch", "^is ;", "var int ^self", "var ^self x", "try { } catch ^self")
        self.wrong_in_body("try { } catch A ^nil", "try { } catch ^int", "( new ^int", "( x is ^text", "( x as ^truth")

    def test_digits(self):
        for digits in (
            "2147483648", "2147483650", "9999999999", "12345678901", "00000000001", "11111111111111111111",
            "00", "01", "007", "0000000000", "1a", "1_",
        ):
            mark = digits + "^" if digits == "1_" else "^" + digits
            self.wrong_expressions(mark.replace("_^", "^_"))
        for digits in ("-0", "-00", "-01", "-2147483649", "-2147483650", "-9999999999", "-12345678901", "-a", "-1a"):
            self.wrong_expressions("^" + digits)
        self.wrong_expressions("^-", "^- 5", "^-\n5", "^--5", "^-( 5 )", '^-"a"', "^-x", "^-nil", "^+5", "^- -5")
        for digits in ("0", "9", "10", "1000000000", "2147483647", "-1", "-9", "-1000000000", "-2147483648"):
            self.assertEqual(read_program(HEAD + digits + ";" + TAIL), program_of(("do", ("int", int(digits)))))

    def test_texts(self):
        self.wrong_expressions('^"' + "x" * 41 + '"', '^"a\nb"', '^"\t"', '^"' + "\n" * 3 + '"', '^"', '^"abc',
                               '"a" ^"')
        self.wrong_expressions('^"' + "x" * 500 + '"')
        self.wrong('^"a"', 'class ^"a"', 'class A { ^"a" }', 'def f ^"("', 'def f ( ) { var ^"int"')
        for text in ("", "x" * 40, "def main ( ) { }", "'#\\~ !"):
            self.assertEqual(read_program(HEAD + 'show "' + text + '" ;' + TAIL), program_of(("show", ("text", text))))

    def test_rows_too_many(self):
        self.wrong("class A { row row row ^row int f ; }", "def f ( row row row ^row A p ) { }")
        self.wrong("def f ( ) : row row row ^row text { }", "def f ( int p , row row row ^row",
                   "class A { row row ^nil")
        self.wrong_in_body("var row row row ^row int x = nil ;", "var row row row ^row", "var row row row int ^= 3")
        self.wrong_expressions("( row row row ^row int [ 1 ] )", "( row row row ^row", "( row row row A ^)")

    def test_brackets_with_sixty_open_ones_ahead(self):
        # main's brace is the first open one.
        self.wrong(HEAD + "show " + "( not " * 59 + "^( not 1", HEAD + "show " + "( not " * 59 + "^(")
        self.wrong(HEAD + "x [ " + "( not " * 58 + "^( x", HEAD + "x [ " + "( 1 + " * 58 + "^( 1 + 2 )")
        self.wrong(HEAD + "while true { " * 59 + "^; }", HEAD + "while true { " * 59 + "while true ^{ }")
        self.wrong("class A { def m ( ) { " + "while true { " * 58 + "if true ^{ } else { }")
        self.wrong(HEAD + "try { " * 59 + "try ^{ }", HEAD + "show " + "( not " * 58 + "( x ^[ 0 ] )")
        self.wrong(HEAD + "show " + "( not " * 58 + "( f ^( ) )", HEAD + "show " + "( not " * 58 + "( x . f ^( ) )")
        self.wrong(HEAD + "show " + "( not " * 58 + "( row int ^[ 1 ] )", HEAD + "while true { " * 59 + "x ^[ 1 ]")
        self.wrong(HEAD + "show " + "( f ( " * 29 + "( not ^(")
        # Just sixty are open at the 1: the text is read to its end, where the chain is too long.
        text = HEAD + "show " + "( not " * 59 + "1" + " )" * 59 + " ;" + TAIL
        self.assertEqual(place_of(text), len(text))
        text = HEAD + "while true { " * 59 + "return ;" + " }" * 60
        self.assertEqual(place_of(text), len(text))

    def test_closed_brackets_are_open_no_more(self):
        text = HEAD + "( f ( 1 ) ) ; x [ 0 ] = 1 ; if true { } else { } " * 30 + TAIL
        self.assertEqual(place_of(text), None)
        self.assertEqual(place_of(HEAD + "x [ 0 ] = 1 ; " * 80 + TAIL), None)
        self.assertEqual(place_of(HEAD + "( x [ 0 ] ) ; " * 80 + TAIL), None)
        self.assertEqual(place_of(HEAD + "( f ( ) ) ; " * 80 + TAIL), None)
        self.assertEqual(place_of(HEAD + "while 1 { } " * 80 + TAIL), None)
        text = "class A { int f ; def m ( ) { } } " * 12 + "def f ( int p ) { } " * 18
        self.assertEqual(place_of(text), None)


class Grammar(Marked):
    def test_top(self):
        self.wrong("def f ( ) { } ^class A { }", "class A { } ^}", "^( )", "^;", "def f ( ) { } ^;", "class A { } ^A")
        self.wrong("^above A", "def f ( ) { } ^x = 1 ;", "class A { } ^int f ;")

    def test_classes(self):
        self.wrong("class ^{ }", "class A ^B { }", "class A above ^{ }", "class A above B ^above C { }", "class A ^;")
        self.wrong("class A { int ^; }", "class A { int f ^, }", "class A { int f ^}", "class A { int f ; ^; }")
        self.wrong("class A { def m ( ) { } ^int f ; }", "class A { def m ( ) { } ^class B { } }", "class A { ^( }")
        self.wrong("class A { int f ^= 1 ; }", "class A { ^class B { } }", "class A { row ^; }", "class A ^( )")

    def test_functions(self):
        self.wrong("def ^( ) { }", "def f ^{ }", "def f ( ^, ) { }", "def f ( int ^) { }", "def f ( int a ^int b ) { }")
        self.wrong("def f ( int a , ^) { }", "def f ( int a ^; int b ) { }", "def f ( ) ^int { }", "def f ( ) : ^{ }")
        self.wrong("def f ( ) : int ^int { }", "def f ( ) ^;", "def f ( ) ^= { }", "def f ( a ^) { }", "def f ( ^( ) )")
        self.wrong("def f ( int a , ^, int b ) { }", "def f ( ^{ }")

    def test_statements(self):
        self.wrong_in_body(
            "^;", "^= 1 ;", "^, ;", "^. x ;", "^[ 1 ] ;", "^{ }", "^def f ( ) { }", "^class A { }", "x ^}", "x ^y ;",
            "var A ^= 1 ;", "var ^; ;", "var int ^= 1 ;", "var int x ^; }", "var int x = ^; }",
            "var int x = 1 ^}", "var int x = 1 ^, y", "var int x ^1", "x = ^; }", "x = 1 ^}", "x ^: 1 ;", "x = ^= 1",
            "self ^= 1 ;", "( x . f ) ^= 1 ;", "1 ^= 1 ;", '"a" ^= 1 ;', "nil ^= 1 ;", "x . ^1 = 1 ;", "x . f ^; }",
            "x . f ^( ) ;", "x . f = ^; }", "x . f = 1 ^}", "x . ^= 1 ;", "x [ ^] = 1 ;", "x [ 1 ^= 1 ;",
            "x [ 1 ] ^; }",
            "x [ 1 ] ^[ 2 ] = 1 ;", "x . f ^. g = 1 ;", "x [ 1 ] = 1 ^}", "x [ 1 ] = ^; }", "f ^( ) ;", "x ^+ 1 ;",
            "x [ 1 ^, 2 ] = 3 ;", "x ^is A ;",
        )

    def test_blocks(self):
        self.wrong_in_body(
            "if ^{ } else { }", "if true ^; else { }", "if true { } ^}", "if true { } ^if", "if true { } else ^; }",
            "if true { } else ^if true { } else { }", "if true { } else { } ^else { }", "if true { } ^; else { }",
            "while ^{ }", "while true ^; }", "while true { } ^else { }", "while true { } ^; }", "while true ^x = 1 ;",
            "try ^x", "try { } ^}", "try { } ^finally", "try { } catch ^{ }", "try { } catch A ^{ }",
            "try { } catch A e ^; }", "try { } catch A e ^f { }", "try { } catch ^( A e )", "try ^true { }",
        )

    def test_other_statements(self):
        self.wrong_in_body(
            "return ^}", "return 1 ^}", "return ^: ;", "return 1 ^2 ;", "throw ^; }", "throw x ^}", "show ^; }",
            "show 1 ^, 2 ;", "show x ^= 1 ;", "show 1 ^}", "x ; ^; }", "return ; ^; }", "throw x ^. y ;", "return x ^[",
        )

    def test_expressions(self):
        self.wrong_expressions(
            "^)", "^]", "^}", "^,", "^:", "^.", "^=", "^+", "^*", "^/", "^<", "^{ }", "^[ 1 ]",
            "( ^)", "( 1 ^)", "( x ^)", "( ( 1 + 2 ) ^)", "( 1 + ^)", "( 1 ^1 )", "( 1 + 2 ^; )", "( 1 + 2 ^+ 3 )",
            "( 1 + 2 ^]", "( ^+ 1 )", "( 1 ^: 2 )", "( 1 + ^+ 2 )", "( 1 ^not 2 )", "( 1 ^new A )", "( 1 = ^= 2 )",
            "( x . ^) ", "( x . ^( ) )", "( x . f ^. g )", "( x . f ^[ 1 ] )", "( x . f ( ) ^( ) )", "( x . f ( ^, ) )",
            "( x . f ( 1 ^; ) )", "( x . f ( 1 , ^) )", "( x . f ( 1 ^2 ) )", "( x . f ( ) ^; )", "( x . ^self )",
            "( x [ ^] )", "( x [ 1 ^) )", "( x [ 1 ] ^[ 2 ] )", "( x [ 1 ] ^; )", "( x [ 1 ^, 2 ] )", "( x ^{ 1 } )",
            "( f ( ^, ) )", "( f ( 1 ^; ) )", "( f ( 1 , ^) )", "( f ( 1 ^2 ) )", "( f ( ) ^; )", "( f ( ) ^( ) )",
            "( self ^( ) )", "( 1 ^( ) )", '( "a" ^( ) )', "( nil ^( ) )", "( read ^( ) )", "( ( x . f ) ^( ) )",
            "( new ^) ", "( new A ^( ) )", "( new ^( A ) )", "( new A ^. x )", "( new ^row int )",
            "( row ^[ 1 ] )", "( row int ^1 )", "( row int [ ^] )", "( row int [ 1 ^) )", "( row int [ 1 ] ^[ 2 ] )",
            "( row int ^( 1 ) )", "( row int ^) ", "( row int [ 1 ] ^; )", "( row row ^[ 1 ] )",
            "( not ^) ", "( not 1 ^2 )", "( not 1 ^+ 2 )", "( size ^) ", "( size x ^x )", "( tell ^) ",
            "( tell 1 ^, 2 )",
            "( x is ^) ", "( x is A ^B )", "( x as ^) ", "( x as A ^. f )", "( x is ^1 )", "( x as ^( A ) )",
            "( x sign ^) ", "( x sign 1 ^2 )", "( ^sign x 1 )", "( ^is A )", "( ^as A )", "( ^rem 2 )", "( ^and true )",
            "( 1 ^size 2 )", "( 1 ^tell 2 )", "( x ^row 1 )", "( 1 ^above 2 )", "( 1 ^> 2 )", "true ^false", "1 ^( 2 )",
        )

    def test_earlier_words_are_told_first(self):
        self.wrong("class A { ^; } ! ! !", HEAD + "show ^; ! ; x = 01 ;", '^} "abc', HEAD + 'show 1 ^2 "')
        self.wrong(HEAD + "show " + "( not " * 58 + "( 1 ^1 ( (")


class TooEarly(unittest.TestCase):
    def test_each_beginning_of_words(self):
        for text in (EXAMPLE_TEXT, WHOLE_TEXT):
            for at, _ in spread(text)[1:]:
                for begin in (text[:at].rstrip(), text[:at], text[:at] + "\n \n"):
                    words = [word for _, word in spread(text[:at].rstrip())]
                    # Behind a class or a function the text may end.
                    whole = words[-1] == "}" and words.count("{") == words.count("}")
                    self.assertEqual(place_of(begin), None if whole else len(begin))

    def test_small_ones(self):
        for text in ("class", "class A", "class A above", "class A {", "class A { int", "class A { int f", "def",
                     "def f", "def f (", "def f ( int", "def f ( int a", "def f ( int a ,", "def f ( )", "def f ( ) :",
                     "def f ( ) : row", "def f ( ) {", "def f ( ) { x", "def f ( ) { ( x .", "def f ( ) { return",
                     "def f ( ) { show -5", "class A {  \n  ", "def f ( ) { try { } catch A"):
            self.assertEqual(place_of(text), len(text), text)

    def test_cut_words_are_no_words(self):
        for text in ("cla", "de", "class A abov", "def f ( ) { if true { } els", "def f ( ) { show -",
                     'def f ( ) { "ab'):
            words = text.split(" ")
            self.assertEqual(place_of(text), len(text) - len(words[-1]), text)


class EachWordExchanged(unittest.TestCase):
    def test_place_of_a_word_that_is_none(self):
        for text in (EXAMPLE_TEXT, WHOLE_TEXT):
            for at, word in spread(text):
                for other in ("?", "\t", "abcdefghi", "00"):
                    self.assertEqual(place_of(text[:at] + other + text[at + len(word):]), at)
                    self.assertEqual(place_of(text[:at] + other + " " + text[at:]), at)

    def test_words_too_many_at_the_end(self):
        for word in ("}", ";", "x", "1", "class", "(", '"a"'):
            self.assertEqual(place_of(EXAMPLE_TEXT + " " + word), len(EXAMPLE_TEXT) + 1)


class BeyondTheBounds(unittest.TestCase):
    def at_end(self, right, beyond):
        self.assertEqual(place_of(right), None, right)
        for text in (beyond, " " + beyond + " \n "):
            self.assertEqual(place_of(text), len(text), text)

    def test_classes_and_functions(self):
        self.at_end("class A { } " * 12, "class A { } " * 13)
        self.at_end("def f ( ) { } " * 30, "def f ( ) { } " * 31)
        self.at_end("class A { def m ( ) { } } " * 12 + "def f ( ) { } " * 18,
                    "class A { def m ( ) { } } " * 12 + "def f ( ) { } " * 19)

    def test_parts_of_classes_and_functions(self):
        self.at_end("class A { " + "int f ; " * 8 + "}", "class A { " + "int f ; " * 9 + "}")
        self.at_end("class A { " + "def m ( ) { } " * 8 + "}", "class A { " + "def m ( ) { } " * 9 + "}")
        self.at_end("def f ( int a" + " , int a" * 5 + " ) { }", "def f ( int a" + " , int a" * 6 + " ) { }")

    def test_bodies(self):
        self.at_end(HEAD + "return ; " * 400 + "}", HEAD + "return ; " * 401 + "}")
        self.at_end(HEAD + "show " + "( not " * 18 + "1 " + ") " * 18 + "; }",
                    HEAD + "show " + "( not " * 19 + "1 " + ") " * 19 + "; }")
        self.at_end(HEAD + "var int v = 1 ; " * 16 + "}", HEAD + "var int v = 1 ; " * 17 + "}")
        self.at_end(HEAD + "try { } catch A e { } " * 10 + "}", HEAD + "try { } catch A e { } " * 11 + "}")

    def test_very_long_texts(self):
        text = HEAD + "show ( 1 + 2 ) ; " * 20000 + "}"
        self.assertEqual(place_of(text), len(text))
        text = HEAD + " " * 300000 + "show 1 ;" + "\n" * 300000 + "}"
        self.assertEqual(read_program(text), program_of(("show", ("int", 1))))
        self.assertEqual(place_of(HEAD + "show " + "1" * 300000), len(HEAD) + 5)
        self.assertEqual(place_of(HEAD + "show " + "x" * 300000), len(HEAD) + 5)


class WrongArguments(unittest.TestCase):
    def test_what_is_no_str(self):
        for thing in (None, True, 0, 7, b"", b"class A { }", (), [], {}, ("class A { }",), ["def"], EXAMPLE, object()):
            with self.subTest(thing=thing):
                self.assertEqual(place_of(thing), 0)

    def test_what_is_no_program(self):
        for thing in (None, True, 0, "", EXAMPLE_TEXT, (), [(), ()], ((), [], ()), ((), (("main", (), None),)),
                      program_of(("int", 1)), program_of(("show", ("int", True))), {}, object()):
            with self.subTest(thing=thing):
                with self.assertRaises(BadForm):
                    write_program(thing)


class RandomOnes(unittest.TestCase):
    """Programs of the right form, made by chance but the same ones each time."""

    def test_there_and_back(self):
        chance = random.Random(7)
        for _ in range(300):
            program = any_program(chance)
            self.assertIs(is_program(program), True)
            text = write_program(program)
            self.assertEqual(text, " ".join(word for _, word in spread(text)))
            for same in (text, packed(text), stretched(text)):
                self.assertEqual(read_program(same), program)

    def test_equal_calls_have_equal_results(self):
        chance = random.Random(8)
        for _ in range(20):
            program = any_program(chance)
            self.assertEqual(write_program(program), write_program(program))
            text = write_program(program)
            self.assertEqual(read_program(text), read_program(text))


def any_name(chance):
    return chance.choice("abcxyzABC") + chance.choice(("", "0", "if", "nil", "1234567"))


def any_kind(chance, rows):
    if rows > 0 and chance.random() < 0.3:
        return ("row", any_kind(chance, rows - 1))
    return chance.choice(("int", "truth", "text", ("of", any_name(chance))))


def any_text(chance):
    signs = [chr(code) for code in range(32, 127) if code not in (34, 37)]
    return "".join(chance.choice(signs) for _ in range(chance.randrange(41)))


def any_expression(chance, depth):
    part = (lambda: any_expression(chance, depth - 1))
    leaves = (
        lambda: ("int", chance.choice((0, 1, -1, 10, -2147483648, 2147483647, chance.randrange(-99999, 99999)))),
        lambda: ("truth", chance.random() < 0.5),
        lambda: ("text", any_text(chance)),
        lambda: ("nil",),
        lambda: ("name", chance.choice(("self", any_name(chance)))),
        lambda: ("new", any_name(chance)),
        lambda: ("read",),
    )
    others = (
        lambda: ("get", part(), any_name(chance)),
        lambda: ("at", part(), part()),
        lambda: ("call", any_name(chance), tuple(part() for _ in range(chance.randrange(3)))),
        lambda: ("ask", part(), any_name(chance), tuple(part() for _ in range(chance.randrange(3)))),
        lambda: ("row", any_kind(chance, 2), part()),
        lambda: ("op", chance.choice(("+", "-", "*", "/", "rem", "<", "=", "and", "or")), part(), part()),
        lambda: (chance.choice(("not", "size", "tell")), part()),
        lambda: (chance.choice(("is", "as")), part(), any_name(chance)),
        lambda: ("sign", part(), part()),
    )
    return chance.choice(leaves if depth <= 1 or chance.random() < 0.3 else others)()


def any_block(chance, depth):
    return tuple(any_statement(chance, depth) for _ in range(chance.randrange(3)))


def any_statement(chance, depth):
    part = (lambda: any_expression(chance, 3))
    kinds = [
        lambda: ("set", any_name(chance), part()),
        lambda: ("put", part(), any_name(chance), part()),
        lambda: ("place", part(), part(), part()),
        lambda: ("return", None),
        lambda: (chance.choice(("return", "throw", "show", "do")), part()),
    ]
    if depth > 1:
        kinds.append(lambda: ("if", part(), any_block(chance, depth - 1), any_block(chance, depth - 1)))
        kinds.append(lambda: ("while", part(), any_block(chance, depth - 1)))
    return chance.choice(kinds)()


def any_function(chance):
    params = tuple((any_name(chance), any_kind(chance, 3)) for _ in range(chance.randrange(4)))
    told = (("var", any_name(chance), any_kind(chance, 3), any_expression(chance, 2)),) * chance.randrange(3)
    caught = (("try", any_block(chance, 1), any_name(chance), any_name(chance), any_block(chance, 1)),)
    result = chance.choice((None, any_kind(chance, 3)))
    return (any_name(chance), params, result, told + caught + any_block(chance, 3))


def any_class(chance):
    fields = tuple((any_name(chance), any_kind(chance, 3)) for _ in range(chance.randrange(3)))
    methods = tuple(any_function(chance) for _ in range(chance.randrange(3)))
    return (any_name(chance), chance.choice((None, any_name(chance))), fields, methods)


def any_program(chance):
    classes = tuple(any_class(chance) for _ in range(chance.randrange(4)))
    return (classes, tuple(any_function(chance) for _ in range(chance.randrange(4))))


if __name__ == "__main__":
    unittest.main()
