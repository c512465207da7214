"""compiled and code_place: programs as modules (point 20)."""

import unittest

from movedrun.checks import check
from movedrun.compiler import code_place, compiled
from movedrun.errors import BadForm, BadPlace, NotLetBy
from movedrun.meaning import mean
from movedrun.modules import is_module
from movedrun.programs import read_program
from movedrun.verifier import heights, set_locals, stack_kinds, verify
from tests.building import EXAMPLE, program_of
from tests.reference import nodes_of, reference
from tests.running import run_module

HEADS = (
    "class A { int n ; truth t ; text s ; A next ; row int r ; def id ( int i ) : int { show i ; return i ; } "
    "def me ( ) : A { return self ; } def go ( ) { show self . n ; } } ".replace("show self . n ;", "show ( self . n ) ;")
    + "class B above A { int m ; def id ( int j ) : int { return ( j * 2 ) ; } } class D { } "
    "def say ( int i ) : int { show i ; return i ; } def yes ( int i ) : truth { show i ; return true ; } "
    "def no ( int i ) : truth { show i ; return false ; } def fail ( A a ) : text { throw a ; } "
    "def void ( ) { } def many ( int a , truth b , text c , A d , row int e , row row A f ) : row A { return nil ; } "
)

# Bodies of main with every statement and expression, and with what is apt to be come to or not in their midst.
BODIES = (
    "",
    "var int a = 1 ; var truth b = true ; var text c = \"x\" ; var A d = nil ; var row row A e = ( row row A [ 2 ] ) ; show a ;",
    "var int a = read ; a = ( a + read ) ; show a ; a = ( a / read ) ; show a ;",
    "var A a = ( new B ) ; a . n = 3 ; show ( a . n ) ; a . next = a ; show ( ( ( a . next ) . next ) . n ) ; ( a . next ) . s = \"q\" ;",
    "var row int r = ( row int [ 3 ] ) ; r [ 1 ] = 5 ; r [ ( r [ 0 ] ) ] = ( r [ 1 ] ) ; show ( r [ 0 ] ) ; r [ 3 ] = 1 ;",
    "if true { show 1 ; } else { show 2 ; } if false { show 3 ; } else { show 4 ; } if ( yes ( 5 ) ) { } else { } show 6 ;",
    "if ( no ( 1 ) ) { if true { show 2 ; } else { } } else { if true { } else { show 3 ; } } show 4 ;",
    "var int i = 0 ; while ( i < 3 ) { var int k = 0 ; while ( k < i ) { show ( i * k ) ; k = ( k + 1 ) ; } i = ( i + 1 ) ; }",
    "while false { } while ( no ( 1 ) ) { show 2 ; } while true { while true { while ( no ( 3 ) ) { } return ; } }",
    "while true { if ( yes ( 1 ) ) { return ; } else { } } show 2 ;",
    "return ; show 1 ; while true { return ; }",
    "if true { return ; } else { return ; } show 1 ;",
    "try { show 1 ; throw ( new B ) ; show 2 ; } catch A e { show 3 ; show ( e is B ) ; } show 4 ;",
    "try { } catch A e { show 1 ; } try { show 2 ; } catch D f { } try { throw ( new D ) ; } catch D g { } show 3 ;",
    "try { try { throw ( new A ) ; } catch B e { show 1 ; } show 2 ; } catch A f { show 3 ; try { throw f ; } catch A g { show 4 ; } }",
    "try { try { throw ( new A ) ; } catch A e { show 1 ; throw e ; } } catch A f { show 2 ; throw f ; }",
    "try { while true { try { throw ( new D ) ; } catch A e { show 1 ; } } } catch D f { show 2 ; }",
    "var int i = 0 ; while ( i < 2 ) { try { } catch A e { } i = ( i + 1 ) ; } if true { try { } catch A f { } } else { } show i ;",
    "while ( yes ( 1 ) ) { try { show 2 ; if ( no ( 3 ) ) { } else { throw ( new A ) ; } } catch A e { show 4 ; return ; } }",
    "try { show ( fail ( ( new B ) ) ) ; } catch B e { show ( ( e . me ( ) ) = e ) ; } show ( fail ( nil ) ) ;",
    "throw nil ;", "throw ( new A ) ;", "show nil ;", "nil ; \"a\" ; ( void ( ) ) ; ( say ( 1 ) ) ; ( ( new A ) . go ( ) ) ; read ;",
    "show ( -2147483648 / -1 ) ; show ( -2147483648 rem -1 ) ; show ( 7 rem -2 ) ; show ( 2147483647 + 1 ) ; show ( 1 rem 0 ) ;",
    "show ( ( 1 < 2 ) = ( 2 < 1 ) ) ; show ( nil = nil ) ; show ( ( new A ) = nil ) ; show ( \"a\" = \"a\" ) ; show ( not true ) ;",
    "show ( ( yes ( 1 ) ) and ( no ( 2 ) ) ) ; show ( ( no ( 3 ) ) and ( yes ( 4 ) ) ) ; show ( ( yes ( 5 ) ) or ( no ( 6 ) ) ) ; "
    "show ( ( no ( 7 ) ) or ( ( yes ( 8 ) ) and ( not ( no ( 9 ) ) ) ) ) ;",
    "if ( ( no ( 1 ) ) or ( no ( 2 ) ) ) { show 3 ; } else { } while ( ( yes ( 4 ) ) and ( no ( 5 ) ) ) { }",
    "show ( ( \"ab\" + \"cd\" ) + ( tell -5 ) ) ; show ( size ( nil + nil ) ) ;",
    "show ( size \"abc\" ) ; show ( size ( row A [ 7 ] ) ) ; show ( \"abc\" sign 1 ) ; show ( tell ( size \"\" ) ) ; show ( \"\" sign 0 ) ;",
    "show ( nil is A ) ; show ( ( new A ) is B ) ; show ( ( ( new B ) as A ) is B ) ; ( ( new A ) as B ) ;",
    "show ( size ( many ( 1 , true , nil , ( new B ) , nil , ( row row A [ 1 ] ) ) ) ) ;",
    "show ( ( ( new B ) . id ( 4 ) ) + ( ( ( new A ) . me ( ) ) . id ( ( say ( 5 ) ) ) ) ) ; var A a = nil ; ( a . id ( read ) ) ;",
    "show ( ( row int [ 2 ] ) [ ( say ( 1 ) ) ] ) ; show ( ( ( row row A [ 2 ] ) [ 1 ] ) = nil ) ; ( row int [ -1 ] ) ;",
    "( 1 + 2 ) ; ( 2 - 1 ) ; ( 1 < 2 ) ; ( nil = nil ) ; ( \"a\" + nil ) ;", "true ; ( true and ( yes ( 1 ) ) ) ; ( not true ) ; ( nil is A ) ; "
    "( nil as A ) ; ( size \"a\" ) ; ( \"a\" sign 0 ) ; ( tell 1 ) ; ( row int [ 1 ] ) ; ( new A ) ; ( ( new A ) . n ) ; "
    "( ( row int [ 1 ] ) [ 0 ] ) ; ( ( new A ) . id ( 1 ) ) ; ( -1 rem 2 ) ; ( \"a\" + \"b\" ) ; ( nil + nil ) ; 7 ; nil ;",
    "var A a = ( new B ) ; ( a as B ) . m = 3 ; show ( ( ( a as B ) as B ) . m ) ; var row row A r = ( row row A [ 2 ] ) ; "
    "r [ 1 ] = ( row A [ 3 ] ) ; ( r [ 1 ] ) [ 2 ] = a ; show ( ( ( r [ 1 ] ) [ 2 ] ) . n ) ; show ( ( ( r [ 1 ] ) [ 2 ] ) . id ( 4 ) ) ; "
    "show ( ( ( row A [ 2 ] ) [ 1 ] ) . n ) ;",
    "show ( size ( many ( 1 , true , \"a\" , ( ( new B ) . me ( ) ) , ( row int [ 1 ] ) , nil ) ) ) ;",
    "show ( ( many ( 1 , true , \"a\" , nil , nil , nil ) ) = nil ) ; ( ( many ( 1 , true , \"a\" , nil , nil , nil ) ) [ 0 ] ) . n = 1 ;",
    "if true { var int x = 1 ; show x ; } else { var text x = \"y\" ; show x ; } var truth x = false ; show x ;",
    "( main ( ) ) ;", "show 1 ; var int i = 0 ; while ( i < 5 ) { ( say ( i ) ) ; i = ( i + 1 ) ; } show ( 1 / 0 ) ;",
)


class Tables(dict):
    """By function (heights, stack_kinds, set_locals), of those alone that a run comes to."""

    def __init__(self, module):
        super().__init__()
        self.module = module

    def __missing__(self, index):
        self[index] = tuple(ask(self.module, index) for ask in (heights, stack_kinds, set_locals))
        return self[index]


class Compiling(unittest.TestCase):
    def places(self, program, step):
        """The place of each statement and expression, or of a part of them, as code_place tells it."""
        wheres = [(owner, function[0], index) for owner, function in bodies_of(program) for index in nodes_of(function[3])]
        return {where: code_place(program, where) for where in wheres[::step]}

    def agrees(self, program, bounds, given=(), step=1):
        """The module is let by, and does what is meant; its places are come to as often as what is there begins."""
        self.assertEqual(check(program), None)
        module = compiled(program)
        self.assertIs(is_module(module), True)
        self.assertEqual(verify(module), None)
        tables = Tables(module)
        places = self.places(program, step)
        for bound in bounds:
            outcome, began = reference(program, given, bound)
            self.assertEqual(mean(program, given, bound), outcome)
            found, came = run_module(module, given, bound, tables)
            self.assertEqual(found, outcome)
            for where, place in places.items():
                if came[place] != began[where]:
                    # A while's place may be that of its test.
                    node = nodes_of(dict_of(program)[where[:2]])[where[2]]
                    self.assertEqual(node[0], "while")
                    self.assertEqual(came[place], began[where[:2] + (node[1][-1],)])


def bodies_of(program):
    return [(None, function) for function in program[1]] + [(each[0], method) for each in program[0] for method in each[3]]


def dict_of(program):
    return {(owner, function[0]): function[3] for owner, function in bodies_of(program)}


class Programs(Compiling):
    def test_every_statement_and_expression(self):
        for body in BODIES:
            with self.subTest(body=body):
                program = read_program(HEADS + "def main ( ) { " + body + " }")
                for given in ((), (6,), (1, -7, 2)):
                    self.agrees(program, (0, 1, 2, 3, 5, 8, 13, 100, 1000), given)

    def test_the_example(self):
        self.agrees(EXAMPLE, range(10))

    def test_ends_of_functions_with_a_result(self):
        for kind, value in (("int", "1"), ("truth", "true"), ("text", "\"a\""), ("A", "nil"), ("row int", "nil")):
            for body in (f"while true {{ return {value} ; }}", f"if true {{ return {value} ; }} else {{ throw ( new A ) ; }}",
                         f"try {{ return {value} ; }} catch A e {{ return {value} ; }}", f"return {value} ; show 1 ;"):
                text = f"class A {{ }} def f ( ) : {kind} {{ {body} }} def main ( ) {{ ( f ( ) ) ; show 1 ; }}"
                self.agrees(read_program(text), (0, 1, 2))

    def test_deep_and_deep_within(self):
        text = "def f ( int i ) : int { if ( i = 0 ) { return 0 ; } else { return ( 1 + ( f ( ( i - 1 ) ) ) ) ; } } "
        for many in (198, 199):
            self.agrees(read_program(text + f"def main ( ) {{ show ( f ( {many} ) ) ; }}"), (198, 199, 200, 201, 1000))

    def test_at_the_bounds_of_programs(self):
        params = " , ".join(["int a", "int b", "int c", "int d", "int e", "int f"])
        args = " , ".join("12345")
        chain = "6"
        for _ in range(18):
            chain = f"( self . m ( {args} , {chain} ) )"
        text = (f"class A {{ def m ( {params} ) : int {{ return f ; }} def go ( ) {{ {chain} ; show {chain.replace('6', '7')} ; }} }} "
                "def main ( ) { ( ( new A ) . go ( ) ) ; }")
        self.agrees(read_program(text), (0, 5, 18, 19, 100), (), 9)
        tries = "show 1 ; throw ( new A ) ;"
        for at in range(10):
            tries = f"try {{ {tries} }} catch {'A' if at == 9 else 'B'} e{at} {{ show 2 ; }}"
        self.agrees(read_program("class A { } class B { } def main ( ) { " + tries + " }"), (0,))
        names = "".join(f"var int v{at} = {at} ; show v{at} ; " for at in range(16))
        self.agrees(read_program("def main ( ) { " + names + " }"), (0,))
        self.agrees(program_of(*[("show", ("int", at)) for at in range(200)]), (0,), (), 9)
        truths = ("and", ("truth", True), ("truth", True))
        self.agrees(program_of(*[("do", ("op", *truths)) for at in range(100)]), (0,), (), 9)


class Forms(Compiling):
    def test_sequences(self):
        text = ("class C above B { def a ( ) { } def m ( ) { } } class A { def m ( ) { } } class E above C { } "
                "class B { C c ; def z ( int i ) : B { return self ; } } class D above A { def m ( ) { } } "
                "def f ( ) { } def main ( ) { } def a ( C c ) : int { return 1 ; }")
        program = read_program(text)
        classes, functions, main = compiled(program)
        # B is the one that A leaves, as nothing is above it: only then C may stand, ahead of E, as it is in the program.
        self.assertEqual(classes, (
            ("A", None, (), (("m", 3),)), ("B", None, (("c", ("of", "C")),), (("z", 4),)), ("C", "B", (), (("a", 5), ("m", 6))),
            ("E", "C", (), ()), ("D", "A", (), (("m", 7),))))
        self.assertEqual([function[0] for function in functions], ["f", "main", "a", "A.m", "B.z", "C.a", "C.m", "D.m"])
        self.assertEqual(main, 1)
        self.assertEqual([function[1:3] for function in functions], [
            ((), None), ((), None), ((("of", "C"),), "int"), ((("of", "A"),), None), ((("of", "B"), "int"), ("of", "B")),
            ((("of", "C"),), None), ((("of", "C"),), None), ((("of", "D"),), None)])
        self.agrees(program, (0, 1))

    def test_sequences_of_classes(self):
        for text, names in (("ABC", "ABC"), ("CB>CA", "CBA"), ("A>BB", "BA"), ("A>BB>CC", "CBA"), ("A>CB>CC", "CAB"),
                            ("B>AC>BA", "ABC"), ("D>AB>AC>BA", "ADBC"), ("A>ZB>ZZC", "ZABC")):
            classes = ""
            for at, name in enumerate(text):
                if name != ">" and (at == 0 or text[at - 1] != ">"):
                    above = f"above {text[at + 2]} " if text[at + 1:at + 2] == ">" else ""
                    classes += f"class {name} {above}{{ }} "
            program = read_program(classes + "def main ( ) { }")
            self.assertEqual("".join(each[0] for each in compiled(program)[0]), names, text)

    def test_main_where_it_stands(self):
        for at in range(4):
            functions = [f"def f{k} ( ) {{ }}" for k in range(3)]
            functions.insert(at, "def main ( ) { }")
            self.assertEqual(compiled(read_program(" ".join(functions)))[2], at)

    def test_errors(self):
        for thing in (None, True, "", (), [], list(EXAMPLE), compiled(EXAMPLE)):
            with self.assertRaises(BadForm):
                compiled(thing)
            with self.assertRaises(BadForm):
                code_place(thing, None)
        unlet = program_of(("show", ("name", "gone")))
        for ask in (lambda: compiled(unlet), lambda: code_place(unlet, None), lambda: code_place(unlet, (None, "main", 0))):
            with self.assertRaises(NotLetBy) as caught:
                ask()
            self.assertEqual(caught.exception.what, ("name", (None, "main", 1)))

    def test_arguments_by_name(self):
        self.assertEqual(compiled(program=EXAMPLE), compiled(EXAMPLE))
        self.assertEqual(code_place(where=(None, "main", 0), program=EXAMPLE), code_place(EXAMPLE, (None, "main", 0)))

    def test_equal_calls_and_nothing_kept(self):
        before = repr(EXAMPLE)
        self.assertEqual(repr(compiled(EXAMPLE)), repr(compiled(EXAMPLE)))
        self.assertEqual(repr(EXAMPLE), before)


class Places(Compiling):
    def refused(self, program, *wheres):
        for where in wheres:
            with self.subTest(where=repr(where)):
                with self.assertRaises(BadPlace):
                    code_place(program, where)

    def test_each_index_of_a_body(self):
        for name, owner, many in (("main", None, 26), ("sum", "Node", 18)):
            for index in range(many):
                function, place = code_place(EXAMPLE, (owner, name, index))
                self.assertEqual(compiled(EXAMPLE)[1][function][0], name if owner is None else owner + "." + name)
                self.assertIs(type(place), int)
                self.assertIs(type(code_place(EXAMPLE, (owner, name, index))), tuple)
            self.refused(EXAMPLE, (owner, name, many))

    def test_how_many_there_are(self):
        for owner, function in bodies_of(EXAMPLE):
            many = len(nodes_of(function[3]))
            code_place(EXAMPLE, (owner, function[0], many - 1))
            self.refused(EXAMPLE, (owner, function[0], many))

    def test_what_is_none(self):
        self.refused(
            EXAMPLE, None, True, 0, "", "main", (), [], {}, (None, "main"), (None, "main", 0, 0), [None, "main", 0],
            (None, "main", None), (None, "main", True), (None, "main", False), (None, "main", -1), (None, "main", 999),
            (None, "main", 10 ** 30), (None, "main", "0"), (None, "main", (0,)), (None, "main", [0]), (None, "gone", 0),
            (None, "sum", 0), (None, None, 0), (None, 0, 0), (None, ("main",), 0), (None, ["main"], 0), ("Node", "main", 0),
            ("Node", "sum", None), ("Node", "sum", -1), ("Gone", "sum", 0), ("", "main", 0), (False, "main", 0), (0, "main", 0),
            ((), "main", 0), ([], "main", 0), ({}, "main", 0), ("Node.sum", 0, 0), (None, "Node.sum", 0), ("Node", None, 0),
            ("main", None, 0), object())

    def test_an_empty_body_has_none(self):
        self.refused(program_of(), (None, "main", 0), (None, "main", None))

    def test_a_method_is_the_classs_in_which_it_is_written(self):
        text = ("class A { def m ( ) { show 1 ; } } class B above A { } class C above A { def m ( ) { show 2 ; show 3 ; } } "
                "def m ( ) { show 4 ; } def main ( ) { }")
        program = read_program(text)
        self.refused(program, ("B", "m", 0), ("A", "m", 2), ("C", "m", 4), (None, "m", 2), (None, "main", 0))
        self.assertEqual([code_place(program, (owner, "m", 0))[0] for owner in (None, "A", "C")], [0, 2, 3])


if __name__ == "__main__":
    unittest.main()
