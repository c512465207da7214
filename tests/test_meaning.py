"""mean: what a program means (points 2, 10 and 11)."""

import unittest

from movedrun.checks import check
from movedrun.errors import BadCount, BadForm, BadGiven, NotLetBy
from movedrun.meaning import mean
from movedrun.programs import read_program
from tests.building import EXAMPLE, EXAMPLE_TEXT, program_of

LEAST = -2 ** 31
GREATEST = 2 ** 31 - 1

TREE = (
    "class A { int n ; truth t ; text s ; A next ; row int r ; "
    "def id ( int i ) : int { show ( tell i ) ; return i ; } def me ( ) : A { show \"me\" ; return self ; } "
    "def who ( ) : text { return \"A\" ; } def nest ( int i ) : int { return i ; } } "
    "class B above A { int m ; def who ( ) : text { return \"B\" ; } } class C above B { } class D { D d ; } "
    "def say ( int i ) : int { show i ; return i ; } def yes ( int i ) : truth { show i ; return true ; } "
    "def no ( int i ) : truth { show i ; return false ; } def nrow ( int i ) : row int { show i ; return nil ; } "
    "def mrow ( int i ) : row int { show i ; return ( row int [ 3 ] ) ; } "
    "def na ( int i ) : A { show i ; return nil ; } def ntext ( int i ) : text { show i ; return nil ; } "
    "def two ( int i , int j ) : int { return ( ( i * 10 ) + j ) ; } "
)


class Meaning(unittest.TestCase):
    def means(self, text, outcome, given=(), bound=1000):
        with self.subTest(text=text, bound=bound):
            program = read_program(text)
            self.assertEqual(check(program), None)
            found = mean(program, given, bound)
            self.assertEqual(found, outcome)
            self.assertEqual(repr(found), repr(outcome))

    def in_main(self, body, outcome, given=(), bound=1000):
        self.means(TREE + "def main ( ) { " + body + " }", outcome, given, bound)

    def shows(self, body, *shown, given=(), bound=1000):
        self.in_main(body, ("end", "", shown), given, bound)

    def faults(self, body, word, *shown, given=(), bound=1000):
        self.in_main(body, ("fault", (word, "main"), shown), given, bound)

    def tells(self, expression, value):
        self.shows("show " + expression + " ;", value)


class Example(Meaning):
    def test_it(self):
        self.assertEqual(mean(EXAMPLE, (), 6), ("end", "", (13,)))
        self.assertEqual(mean(EXAMPLE, (), 5), ("spent", "", ()))
        for bound in range(6):
            self.means(EXAMPLE_TEXT, ("spent", "", ()), (), bound)
        self.means(EXAMPLE_TEXT, ("end", "", (13,)), (), 1000000)


class Arguments(Meaning):
    def raises(self, error, *arguments):
        with self.subTest(arguments=repr(arguments)[:200]):
            with self.assertRaises(error) as caught:
                mean(*arguments)
            self.assertIs(type(caught.exception), error)

    def test_of_two_wrong_ones_the_first_is_told(self):
        unlet = program_of(("show", ("name", "gone")))
        self.raises(BadForm, None, None, None)
        self.raises(BadForm, [(), ()], [], True)
        self.raises(NotLetBy, unlet, None, None)
        self.raises(NotLetBy, ((), ()), [], -1)
        self.raises(BadGiven, EXAMPLE, None, None)
        self.raises(BadGiven, EXAMPLE, [], -1)
        self.raises(BadCount, EXAMPLE, (), None)
        self.raises(BadForm, EXAMPLE_TEXT, (), 5)
        self.raises(NotLetBy, unlet, (), 5)

    def test_what_the_check_tells(self):
        with self.assertRaises(NotLetBy) as caught:
            mean(program_of(("show", ("name", "gone"))), (), 0)
        self.assertEqual(caught.exception.what, ("name", (None, "main", 1)))

    def test_inputs(self):
        for given in (None, 0, 1, True, "", "12", [], [1], {}, {1}, range(3), (True,), (False,), (1, True), ("1",), (None,),
                      ((),), ((1,),), (1, (2,)), (LEAST - 1,), (GREATEST + 1,), (10 ** 30,), (-10 ** 30,), (1,) * 1001,
                      (b"",), object()):
            self.raises(BadGiven, EXAMPLE, given, 5)
        for given in ((), (0,), (LEAST, GREATEST), (7,) * 1000):
            self.assertEqual(mean(EXAMPLE, given, 6), ("end", "", (13,)))

    def test_bounds(self):
        for bound in (None, True, False, -1, 1000001, 10 ** 30, "5", (), (5,), [5], {}, object(), b"5"):
            self.raises(BadCount, EXAMPLE, (), bound)
        for bound in (6, 1000000):
            self.assertEqual(mean(EXAMPLE, (), bound), ("end", "", (13,)))
        self.assertEqual(mean(EXAMPLE, (), 0), ("spent", "", ()))

    def test_by_name(self):
        self.assertEqual(mean(bound=6, given=(), program=EXAMPLE), ("end", "", (13,)))

    def test_equal_calls_and_nothing_changed(self):
        program = read_program("def main ( ) { show read ; show read ; }")
        given = (4, 5)
        for _ in range(2):
            self.assertEqual(mean(program, given, 5), ("end", "", (4, 5)))
        self.assertEqual(given, (4, 5))

    def test_forms_of_an_outcome(self):
        for text, outcome in (("show true ; show 1 ; show \"a\" ;", ("end", "", (True, 1, "a"))),
                              ("show ( 1 / 0 ) ;", ("fault", ("zero", "main"), ())),
                              ("while true { }", ("spent", "", ()))):
            found = mean(read_program("def main ( ) { " + text + " }"), (), 5)
            self.assertEqual(repr(found), repr(outcome))


class Ints(Meaning):
    def test_sums_wrap_round(self):
        self.tells("( 2147483647 + 1 )", LEAST)
        self.tells("( -2147483648 + -1 )", GREATEST)
        self.tells("( 2147483647 + 2147483647 )", -2)
        self.tells("( -2147483648 + -2147483648 )", 0)
        self.tells("( 2147483646 + 1 )", GREATEST)
        self.tells("( 2 + 3 )", 5)

    def test_differences_wrap_round(self):
        self.tells("( -2147483648 - 1 )", GREATEST)
        self.tells("( 2147483647 - -1 )", LEAST)
        self.tells("( 0 - -2147483648 )", LEAST)
        self.tells("( 2 - 3 )", -1)

    def test_products_wrap_round(self):
        self.tells("( -2147483648 * -1 )", LEAST)
        self.tells("( 65536 * 65536 )", 0)
        self.tells("( 65536 * 32768 )", LEAST)
        self.tells("( 2147483647 * 2147483647 )", 1)
        self.tells("( 46341 * 46341 )", 46341 * 46341 - 2 ** 32)
        self.tells("( -3 * 4 )", -12)

    def test_division_cuts_towards_0(self):
        for first, second, quotient, rest in (
                (7, 2, 3, 1), (-7, 2, -3, -1), (7, -2, -3, 1), (-7, -2, 3, -1), (6, 3, 2, 0), (-6, 3, -2, 0),
                (1, 2, 0, 1), (-1, 2, 0, -1), (1, -2, 0, 1), (0, 5, 0, 0), (0, -5, 0, 0),
                (LEAST, -1, LEAST, 0), (LEAST, 1, LEAST, 0), (LEAST, 2, -2 ** 30, 0), (GREATEST, LEAST, 0, GREATEST),
                (LEAST, GREATEST, -1, -1), (LEAST, LEAST, 1, 0), (GREATEST, -1, -GREATEST, 0)):
            self.tells(f"( {first} / {second} )", quotient)
            self.tells(f"( {first} rem {second} )", rest)

    def test_by_0(self):
        for first in (0, 1, -1, LEAST):
            self.faults(f"show ( {first} / 0 ) ;", "zero")
            self.faults(f"show ( {first} rem 0 ) ;", "zero")

    def test_less_and_same(self):
        self.tells("( 1 < 2 )", True)
        self.tells("( 2 < 2 )", False)
        self.tells("( -2147483648 < 2147483647 )", True)
        self.tells("( 2 = 2 )", True)
        self.tells("( 2 = 3 )", False)
        self.tells("( true = true )", True)
        self.tells("( true = false )", False)
        self.tells("( not true )", False)
        self.tells("( not false )", True)

    def test_read(self):
        self.shows("show read ; show ( read - read ) ;", 5, LEAST, given=(5, LEAST, 0))
        self.shows("show ( read - read ) ;", 3, given=(8, 5, 7))
        self.faults("show read ; show read ;", "dry", 5, given=(5,))
        self.faults("show read ;", "dry")
        self.shows("", given=(1, 2))


class Truths(Meaning):
    def test_the_second_side_is_left_out(self):
        self.shows("show ( ( no ( 1 ) ) and ( yes ( 2 ) ) ) ;", 1, False)
        self.shows("show ( ( yes ( 1 ) ) and ( no ( 2 ) ) ) ;", 1, 2, False)
        self.shows("show ( ( yes ( 1 ) ) and ( yes ( 2 ) ) ) ;", 1, 2, True)
        self.shows("show ( ( no ( 1 ) ) or ( yes ( 2 ) ) ) ;", 1, 2, True)
        self.shows("show ( ( no ( 1 ) ) or ( no ( 2 ) ) ) ;", 1, 2, False)
        self.shows("show ( ( yes ( 1 ) ) or ( yes ( 2 ) ) ) ;", 1, True)

    def test_what_is_left_out_is_no_fault(self):
        self.tells("( false and ( ( 1 / 0 ) = 1 ) )", False)
        self.tells("( true or ( ( 1 / 0 ) = 1 ) )", True)
        self.faults("show ( true and ( ( 1 / 0 ) = 1 ) ) ;", "zero")
        self.faults("show ( false or ( ( 1 / 0 ) = 1 ) ) ;", "zero")


class Sequence(Meaning):
    def test_both_sides_from_the_left(self):
        for sign in ("+", "-", "*", "/", "rem", "<", "="):
            value = {"+": 3, "-": -1, "*": 2, "/": 0, "rem": 1, "<": True, "=": False}[sign]
            self.shows(f"show ( ( say ( 1 ) ) {sign} ( say ( 2 ) ) ) ;", 1, 2, value)

    def test_args_from_the_left_then_the_call(self):
        self.shows("show ( two ( ( say ( 1 ) ) , ( say ( 2 ) ) ) ) ;", 1, 2, 12)
        self.shows("show ( two ( ( two ( ( say ( 1 ) ) , ( say ( 2 ) ) ) ) , ( say ( 3 ) ) ) ) ;", 1, 2, 3, 123)

    def test_the_object_ahead_of_args(self):
        self.shows("show ( ( ( new A ) . me ( ) ) . id ( ( say ( 4 ) ) ) ) ;", "me", 4, "4", 4)
        self.faults("show ( ( na ( 1 ) ) . id ( ( say ( 2 ) ) ) ) ;", "nil", 1, 2)

    def test_the_object_ahead_of_the_value(self):
        self.shows("( ( new A ) . me ( ) ) . n = ( say ( 1 ) ) ;", "me", 1)
        self.faults("( na ( 1 ) ) . n = ( say ( 2 ) ) ;", "nil", 1, 2)

    def test_the_row_ahead_of_index_and_value(self):
        self.shows("( mrow ( 1 ) ) [ ( say ( 2 ) ) ] = ( say ( 3 ) ) ;", 1, 2, 3)
        self.shows("show ( ( mrow ( 1 ) ) [ ( say ( 2 ) ) ] ) ;", 1, 2, 0)
        self.faults("( nrow ( 1 ) ) [ ( say ( 2 ) ) ] = ( say ( 3 ) ) ;", "nil", 1, 2, 3)
        self.faults("show ( ( nrow ( 1 ) ) [ ( say ( 2 ) ) ] ) ;", "nil", 1, 2)
        self.faults("( mrow ( 1 ) ) [ ( say ( 3 ) ) ] = ( say ( 4 ) ) ;", "index", 1, 3, 4)
        self.faults("show ( ( ntext ( 1 ) ) sign ( say ( 2 ) ) ) ;", "nil", 1, 2)
        self.faults("show ( ( ntext ( 1 ) ) + ( tell ( say ( 2 ) ) ) ) ;", "nil", 1, 2)

    def test_the_first_of_two_faults(self):
        self.faults("show ( ( 1 / 0 ) + read ) ;", "zero")
        self.faults("show ( read + ( 1 / 0 ) ) ;", "dry")
        self.faults("show ( ( row int [ -1 ] ) [ ( 1 / 0 ) ] ) ;", "size")
        self.faults("show ( ( nrow ( 1 ) ) [ ( 1 / 0 ) ] ) ;", "zero", 1)
        self.faults("( nrow ( 1 ) ) [ -1 ] = ( 1 / 0 ) ;", "zero", 1)
        self.faults("( nrow ( 1 ) ) [ -1 ] = 5 ;", "nil", 1)
        self.faults("( row int [ 2 ] ) [ 2 ] = ( 1 / 0 ) ;", "zero")
        self.faults("show ( ( na ( 1 ) ) . id ( read ) ) ;", "dry", 1)
        self.faults("show 1 ; show ( 1 / 0 ) ; show 2 ;", "zero", 1)

    def test_a_set_is_done_behind_its_value(self):
        self.shows("var int i = 1 ; i = ( i + i ) ; show i ; i = ( i + i ) ; show i ;", 2, 4)


class Made(Meaning):
    def test_fields(self):
        self.shows("var C c = ( new C ) ; show ( c . n ) ; show ( c . t ) ; show ( ( c . s ) = nil ) ; "
                   "show ( ( c . next ) = nil ) ; show ( ( c . r ) = nil ) ; show ( c . m ) ;",
                   0, False, True, True, True, 0)

    def test_entries(self):
        self.shows("show ( ( row int [ 2 ] ) [ 1 ] ) ; show ( ( row truth [ 2 ] ) [ 0 ] ) ; "
                   "show ( ( ( row text [ 2 ] ) [ 0 ] ) = nil ) ; show ( ( ( row A [ 2 ] ) [ 1 ] ) = nil ) ; "
                   "show ( ( ( row row int [ 2 ] ) [ 1 ] ) = nil ) ;", 0, False, True, True, True)

    def test_fields_are_each_objects_own(self):
        self.shows("var A a = ( new A ) ; var A b = ( new A ) ; a . n = 5 ; show ( a . n ) ; show ( b . n ) ; "
                   "b = a ; b . n = 6 ; show ( a . n ) ;", 5, 0, 6)
        self.shows("var row int r = ( row int [ 2 ] ) ; var row int o = r ; o [ 1 ] = 7 ; show ( r [ 1 ] ) ; "
                   "show ( r [ 0 ] ) ; show ( ( row int [ 2 ] ) [ 1 ] ) ;", 7, 0, 0)

    def test_each_doing_makes_a_new_one(self):
        self.tells("( \"a\" = \"a\" )", False)
        self.tells("( ( tell 1 ) = ( tell 1 ) )", False)
        self.tells("( ( new A ) = ( new A ) )", False)
        self.tells("( ( row int [ 0 ] ) = ( row int [ 0 ] ) )", False)
        self.shows("var text s = \"a\" ; show ( s = s ) ; show ( ( s + \"\" ) = s ) ; show ( ( s + \"\" ) = ( s + \"\" ) ) ;",
                   True, False, False)
        self.shows("var int i = 0 ; var text s = nil ; var text o = nil ; while ( i < 2 ) "
                   "{ o = s ; s = \"a\" ; i = ( i + 1 ) ; } show ( o = s ) ; show o ;", False, "a")

    def test_a_var_in_a_block_is_done_each_time(self):
        self.shows("var int i = 0 ; while ( i < 3 ) { var int k = 5 ; k = ( k + i ) ; show k ; i = ( i + 1 ) ; }",
                   5, 6, 7)


class Texts(Meaning):
    def test_size_sign_tell(self):
        self.tells("( size \"\" )", 0)
        self.tells("( size \"abc\" )", 3)
        self.tells("( size ( row int [ 0 ] ) )", 0)
        self.tells("( size ( row row A [ 1000 ] ) )", 1000)
        self.tells("( \"aB~ \" sign 0 )", 97)
        self.tells("( \"aB~ \" sign 2 )", 126)
        self.tells("( \"aB~ \" sign 3 )", 32)
        self.tells("( tell 0 )", "0")
        self.tells("( tell -17 )", "-17")
        self.tells("( tell -2147483648 )", "-2147483648")
        self.tells("( size ( tell -2147483648 ) )", 11)
        self.tells("( ( \"a\" + \"\" ) + ( tell 5 ) )", "a5")
        self.tells("\"a b\"", "a b")

    def test_size_faults_just_beyond(self):
        twice = "s = ( s + s ) ; "
        body = "var text s = \"0123456789\" ; " + twice * 4 + "s = ( s + ( \"" + "x" * 40 + "\" + \"\" ) ) ; "
        self.shows(body + "show ( size s ) ;", 200)
        self.faults(body + "show 1 ; s = ( s + \"a\" ) ; show 2 ;", "size", 1)
        self.faults(body + "s = ( \"a\" + s ) ;", "size")
        self.shows(body + "s = ( s + \"\" ) ; show ( size s ) ;", 200)
        self.shows("show ( size ( row int [ 1000 ] ) ) ; show ( size ( row int [ 0 ] ) ) ;", 1000, 0)
        self.faults("show ( size ( row int [ 1001 ] ) ) ;", "size")
        self.faults("show ( size ( row int [ -1 ] ) ) ;", "size")
        self.faults("show ( size ( row int [ -2147483648 ] ) ) ;", "size")

    def test_index_faults_just_beyond(self):
        for row, many in (("( row int [ 3 ] )", 3), ("( row int [ 0 ] )", 0)):
            for index in (-1, many, LEAST, GREATEST):
                self.faults(f"show ( {row} [ {index} ] ) ;", "index")
                self.faults(f"{row} [ {index} ] = 1 ;", "index")
        self.shows("show ( ( row int [ 3 ] ) [ 2 ] ) ; ( row int [ 3 ] ) [ 2 ] = 1 ;", 0)
        for index in (-1, 2):
            self.faults(f"show ( \"ab\" sign {index} ) ;", "index")
        self.faults("show ( \"\" sign 0 ) ;", "index")

    def test_nil_faults(self):
        ahead = "var A a = nil ; var text s = nil ; var row int r = nil ; show 1 ; "
        for body in ("show ( a . n ) ;", "a . n = 1 ;", "show ( r [ 0 ] ) ;", "r [ 0 ] = 1 ;", "( a . id ( 1 ) ) ;",
                     "show ( size s ) ;", "show ( size r ) ;", "show ( size nil ) ;", "show ( s sign 0 ) ;",
                     "show ( nil sign 0 ) ;", "throw a ;", "throw nil ;", "show s ;", "show nil ;",
                     "show ( s + \"a\" ) ;", "show ( \"a\" + s ) ;", "show ( nil + nil ) ;", "show ( nil + \"a\" ) ;"):
            self.faults(ahead + body + " show 2 ;", "nil", 1)

    def test_what_lets_nil(self):
        ahead = "var A a = nil ; var text s = nil ; "
        self.shows(ahead + "show ( a is A ) ; show ( a = nil ) ; show ( nil = nil ) ; show ( s = nil ) ; "
                   "show ( ( a as B ) = nil ) ; show ( ( nil as B ) = nil ) ; show ( nil is B ) ; a ; nil ;",
                   False, True, True, True, True, True, False)


class Kin(Meaning):
    def test_is(self):
        ahead = "var A a = ( new A ) ; var A b = ( new B ) ; var A c = ( new C ) ; "
        self.shows(ahead + "show ( a is A ) ; show ( b is A ) ; show ( c is A ) ; show ( a is B ) ; show ( b is B ) ; "
                   "show ( c is B ) ; show ( b is C ) ; show ( c is C ) ;",
                   True, True, True, False, True, True, False, True)

    def test_as(self):
        ahead = "var A b = ( new B ) ; "
        self.shows(ahead + "show ( ( b as B ) = b ) ; show ( ( b as A ) = b ) ; ( b as B ) . m = 4 ; "
                   "show ( ( b as B ) . m ) ;", True, True, 4)
        self.faults(ahead + "show 1 ; ( b as C ) ; show 2 ;", "cast", 1)
        self.faults("( ( new A ) as B ) ;", "cast")

    def test_same(self):
        self.shows("var A a = ( new B ) ; var B b = ( a as B ) ; show ( a = b ) ; show ( b = a ) ; "
                   "show ( a = ( new B ) ) ; show ( a = nil ) ; show ( nil = a ) ;", True, True, False, False, False)

    def test_an_ask_means_the_objects_own_class(self):
        self.shows("var A a = ( new A ) ; show ( a . who ( ) ) ; a = ( new B ) ; show ( a . who ( ) ) ; "
                   "a = ( new C ) ; show ( a . who ( ) ) ;", "A", "B", "B")


class Blocks(Meaning):
    def test_if(self):
        for test, shown in (("true", (1, 3)), ("false", (2, 3))):
            self.shows(f"if {test} {{ show 1 ; }} else {{ show 2 ; }} show 3 ;", *shown)

    def test_while(self):
        self.shows("var int i = 0 ; while ( i < 3 ) { show i ; i = ( i + 1 ) ; } show 9 ;", 0, 1, 2, 9)
        self.shows("while false { show 1 ; } show 2 ;", 2)

    def test_return(self):
        text = ("def f ( int i ) : int { while true { if ( 2 < i ) { return i ; } else { i = ( i + 1 ) ; } } } "
                "def main ( ) { show ( f ( 0 ) ) ; show ( f ( 7 ) ) ; return ; show 1 ; }")
        self.means(text, ("end", "", (3, 7)))

    def test_a_function_without_a_result_ends_at_its_end(self):
        text = "def f ( int i ) { show i ; } def main ( ) { ( f ( 4 ) ) ; ( f ( 5 ) ) ; show 6 ; }"
        self.means(text, ("end", "", (4, 5, 6)))

    def test_params_are_each_calls_own(self):
        text = ("def f ( int i ) : int { if ( i < 1 ) { return 0 ; } else { var int k = ( f ( ( i - 1 ) ) ) ; "
                "i = ( i * 2 ) ; return ( k + i ) ; } } def main ( ) { show ( f ( 4 ) ) ; }")
        self.means(text, ("end", "", (20,)))

    def test_do_drops_what_it_comes_to(self):
        self.shows("1 ; \"a\" ; ( say ( 1 ) ) ; ( new A ) ; show 2 ;", 1, 2)


class Throws(Meaning):
    def test_caught(self):
        self.shows("try { show 1 ; throw ( new B ) ; show 2 ; } catch A e { show 3 ; show ( e is B ) ; } show 4 ;",
                   1, 3, True, 4)
        self.shows("try { throw ( new A ) ; } catch A e { show 3 ; }", 3)
        self.shows("try { show 1 ; } catch A e { show 3 ; } show 4 ;", 1, 4)
        self.shows("try { } catch A e { show 3 ; } show 4 ;", 4)

    def test_the_same_object(self):
        self.shows("var A a = ( new A ) ; try { throw a ; } catch A e { show ( e = a ) ; e . n = 5 ; } show ( a . n ) ;",
                   True, 5)

    def test_not_caught(self):
        self.faults("try { throw ( new A ) ; } catch B e { show 3 ; } show 4 ;", "thrown")
        self.faults("try { throw ( new D ) ; } catch A e { show 3 ; }", "thrown")
        self.faults("show 1 ; throw ( new A ) ; show 2 ;", "thrown", 1)

    def test_by_the_objects_own_class(self):
        self.shows("var A a = ( new C ) ; try { throw a ; } catch B e { show 3 ; }", 3)

    def test_the_innermost_that_fits(self):
        self.shows("try { try { throw ( new B ) ; } catch B e { show 1 ; } } catch A f { show 2 ; }", 1)
        self.shows("try { try { throw ( new A ) ; } catch B e { show 1 ; } show 4 ; } catch A f { show 2 ; } show 3 ;",
                   2, 3)
        self.shows("try { try { throw ( new A ) ; } catch A e { show 1 ; throw e ; } } catch A f { show 2 ; }", 1, 2)

    def test_the_second_block_is_not_within_the_try(self):
        self.faults("try { throw ( new A ) ; } catch A e { show 1 ; throw e ; }", "thrown", 1)
        self.faults("try { show 1 ; } catch A e { show 2 ; } throw ( new A ) ;", "thrown", 1)

    def test_a_try_that_is_done_twice(self):
        self.shows("var int i = 0 ; while ( i < 2 ) { try { throw ( new A ) ; } catch A e { show i ; } i = ( i + 1 ) ; }",
                   0, 1)

    def test_thrown_in_what_is_called(self):
        text = ("class E { } class F above E { def go ( ) { throw self ; } } "
                "def f ( int i ) : int { if ( i < 1 ) { throw ( new F ) ; } else { return ( f ( ( i - 1 ) ) ) ; } } "
                "def main ( ) { try { show ( 5 + ( f ( 3 ) ) ) ; } catch E e { show 1 ; } "
                "try { ( ( new F ) . go ( ) ) ; } catch F e2 { show 2 ; } show 3 ; }")
        self.means(text, ("end", "", (1, 2, 3)))

    def test_thrown_beside_a_call_is_not_caught_there(self):
        text = ("class E { } def f ( ) : E { try { return ( new E ) ; } catch E e { show 1 ; } return nil ; } "
                "def main ( ) { throw ( f ( ) ) ; }")
        self.means(text, ("fault", ("thrown", "main"), ()))

    def test_faults_are_not_caught(self):
        self.faults("try { show ( 1 / 0 ) ; } catch A e { show 1 ; }", "zero")

    def test_calls_that_a_throw_leaves_are_none_within_one_another(self):
        text = ("class E { } def f ( int i ) { if ( i < 1 ) { throw ( new E ) ; } else { ( f ( ( i - 1 ) ) ) ; } } "
                "def main ( ) { var int k = 0 ; while ( k < 3 ) { try { ( f ( 190 ) ) ; } catch E e { show k ; } "
                "k = ( k + 1 ) ; } }")
        self.means(text, ("end", "", (0, 1, 2)), bound=10000)


class Names(Meaning):
    def test_with_whose_name_a_fault_is_told(self):
        text = ("class A { def m ( ) { show ( 1 / 0 ) ; } def t ( ) { throw ( new A ) ; } def d ( ) { ( self . d ( ) ) ; } } "
                "class B above A { } class C above B { def m ( ) { show read ; } } "
                "def f ( ) { show ( 1 / 0 ) ; } def t ( ) { throw ( new A ) ; } def d ( ) { ( d ( ) ) ; } "
                "def n ( A a ) { ( a . m ( ) ) ; } def main ( ) { ")
        for body, told in (
                ("( f ( ) ) ;", ("zero", "f")), ("( ( new A ) . m ( ) ) ;", ("zero", "A.m")),
                ("( ( new B ) . m ( ) ) ;", ("zero", "A.m")), ("( ( new C ) . m ( ) ) ;", ("dry", "C.m")),
                ("( t ( ) ) ;", ("thrown", "t")), ("( ( new B ) . t ( ) ) ;", ("thrown", "A.t")),
                ("( d ( ) ) ;", ("deep", "d")), ("( ( new C ) . d ( ) ) ;", ("deep", "A.d")),
                ("( n ( nil ) ) ;", ("nil", "n")), ("( main ( ) ) ;", ("deep", "main")), ("throw ( new A ) ;", ("thrown", "main"))):
            self.means(text + body + " }", ("fault", told, ()))


class Beats(Meaning):
    def beats(self, body, many, outcome):
        """It makes just so many beats: with one less it is spent."""
        self.in_main(body, outcome, bound=many)
        self.in_main(body, outcome, bound=many + 1)
        if many > 0:
            program = read_program(TREE + "def main ( ) { " + body + " }")
            self.assertEqual(mean(program, (), many - 1)[:2], ("spent", ""))

    def test_what_is_a_beat(self):
        self.beats("", 0, ("end", "", ()))
        self.beats("show ( say ( 1 ) ) ;", 1, ("end", "", (1, 1)))
        self.beats("( ( new A ) . who ( ) ) ;", 1, ("end", "", ()))
        self.beats("while false { }", 0, ("end", "", ()))
        self.beats("var int i = 0 ; while ( i < 3 ) { i = ( i + 1 ) ; }", 3, ("end", "", ()))
        self.beats("if true { } else { } show ( size ( row int [ 5 ] ) ) ; ( new A ) ; show ( tell 1 ) ; ", 0,
                   ("end", "", (5, "1")))
        self.beats("try { throw ( new A ) ; } catch A e { }", 0, ("end", "", ()))
        self.beats("show ( two ( ( two ( 1 , 2 ) ) , ( two ( 3 , 4 ) ) ) ) ;", 3, ("end", "", (154,)))

    def test_a_block_that_is_left_is_no_beat(self):
        text = "def main ( ) { while true { show 1 ; return ; } }"
        self.means(text, ("end", "", (1,)), bound=0)
        self.beats("try { while true { throw ( new A ) ; } } catch A e { show 1 ; }", 0, ("end", "", (1,)))

    def test_spent_ahead_of_what_would_come_behind(self):
        for bound in range(4):
            self.in_main("var int i = 0 ; while true { show i ; i = ( i + 1 ) ; }",
                         ("spent", "", tuple(range(bound + 1))), bound=bound)
        self.in_main("show 1 ; ( say ( 2 ) ) ; show 3 ;", ("spent", "", (1,)), bound=0)
        self.in_main("show ( two ( ( say ( 1 ) ) , ( say ( 2 ) ) ) ) ;", ("spent", "", (1,)), bound=1)
        self.in_main("show ( two ( ( say ( 1 ) ) , ( say ( 2 ) ) ) ) ;", ("spent", "", (1, 2)), bound=2)

    def test_the_beat_is_ahead_of_the_test(self):
        self.in_main("while ( yes ( 1 ) ) { show 2 ; }", ("spent", "", ()), bound=0)
        self.in_main("while ( yes ( 1 ) ) { show 2 ; }", ("spent", "", (1, 2)), bound=1)
        self.in_main("while ( yes ( 1 ) ) { show 2 ; }", ("spent", "", (1, 2)), bound=2)
        self.in_main("while ( yes ( 1 ) ) { show 2 ; }", ("spent", "", (1, 2, 1, 2)), bound=3)

    def test_args_are_ahead_of_the_beat(self):
        self.in_main("( say ( ( 1 / 0 ) ) ) ;", ("fault", ("zero", "main"), ()), bound=0)
        self.in_main("( say ( read ) ) ;", ("fault", ("dry", "main"), ()), bound=0)

    def test_an_ask_of_nil_is_no_beat(self):
        self.in_main("var A a = nil ; ( a . who ( ) ) ;", ("fault", ("nil", "main"), ()), bound=0)
        self.in_main("var A a = nil ; ( a . id ( ( say ( 1 ) ) ) ) ;", ("spent", "", ()), bound=0)
        self.in_main("var A a = nil ; ( a . id ( ( say ( 1 ) ) ) ) ;", ("fault", ("nil", "main"), (1,)), bound=1)

    def test_a_fault_ahead_of_spent(self):
        self.in_main("show ( 1 / 0 ) ; ( say ( 1 ) ) ;", ("fault", ("zero", "main"), ()), bound=0)

    def test_deep(self):
        text = ("def f ( int i ) { show i ; ( f ( ( i + 1 ) ) ) ; } def main ( ) { ( f ( 2 ) ) ; }")
        shown = tuple(range(2, 201))
        # A beat is counted ahead of deep.
        self.means(text, ("spent", "", shown), bound=199)
        self.means(text, ("fault", ("deep", "f"), shown), bound=200)
        text = "def f ( int i ) { if ( i < 200 ) { ( f ( ( i + 1 ) ) ) ; } else { show i ; } } def main ( ) { ( f ( 2 ) ) ; }"
        self.means(text, ("end", "", (200,)), bound=199)
        self.means(text.replace("200", "201"), ("fault", ("deep", "f"), ()), bound=200)

    def test_deep_is_of_the_caller(self):
        text = ("def g ( ) { show 1 ; } def f ( int i ) { if ( i < 199 ) { ( f ( ( i + 1 ) ) ) ; } else { ( h ( ) ) ; } } "
                "def h ( ) { show 0 ; ( g ( ) ) ; } def main ( ) { ( f ( 2 ) ) ; }")
        self.means(text, ("fault", ("deep", "h"), (0,)), bound=1000)

    def test_args_within_one_another_are_not_within_calls(self):
        self.in_main("var int i = 0 ; while ( i < 300 ) { ( two ( ( two ( i , i ) ) , i ) ) ; i = ( i + 1 ) ; } show i ;",
                     ("end", "", (300,)), bound=900)

    def test_main_may_be_called(self):
        self.means("def main ( ) { show 1 ; ( main ( ) ) ; }", ("spent", "", (1, 1, 1)), bound=2)
        self.means("def main ( ) { ( main ( ) ) ; }", ("fault", ("deep", "main"), ()), bound=200)
        self.means("def main ( ) { ( main ( ) ) ; }", ("spent", "", ()), bound=199)

    def test_a_long_run(self):
        self.means("def main ( ) { var int i = 0 ; while true { i = ( i + 1 ) ; } }", ("spent", "", ()), bound=30000)


if __name__ == "__main__":
    unittest.main()
