"""Programs and texts that several tests are built from."""

# The example of point 11.
EXAMPLE_TEXT = (
    "class Node { int n ; Node next ; def sum ( int k ) : int "
    "{ if ( ( self . next ) = nil ) { return ( ( self . n ) + k ) ; } "
    "else { return ( ( self . next ) . sum ( ( ( self . n ) + k ) ) ) ; } } } "
    "def main ( ) { var Node c = nil ; var int i = 0 ; while ( i < 3 ) "
    "{ var Node d = ( new Node ) ; d . n = i ; d . next = c ; c = d ; i = ( i + 1 ) ; } "
    "show ( c . sum ( 10 ) ) ; }"
)

SELF_NEXT = ("get", ("name", "self"), "next")
N_AND_K = ("op", "+", ("get", ("name", "self"), "n"), ("name", "k"))

EXAMPLE = (
    ((
        "Node", None, (("n", "int"), ("next", ("of", "Node"))),
        ((
            "sum", (("k", "int"),), "int",
            ((
                "if", ("op", "=", SELF_NEXT, ("nil",)),
                (("return", N_AND_K),),
                (("return", ("ask", SELF_NEXT, "sum", (N_AND_K,))),),
            ),),
        ),),
    ),),
    ((
        "main", (), None,
        (
            ("var", "c", ("of", "Node"), ("nil",)),
            ("var", "i", "int", ("int", 0)),
            ("while", ("op", "<", ("name", "i"), ("int", 3)), (
                ("var", "d", ("of", "Node"), ("new", "Node")),
                ("put", ("name", "d"), "n", ("name", "i")),
                ("put", ("name", "d"), "next", ("name", "c")),
                ("set", "c", ("name", "d")),
                ("set", "i", ("op", "+", ("name", "i"), ("int", 1))),
            )),
            ("show", ("ask", ("name", "c"), "sum", (("int", 10),))),
        ),
    ),),
)

WORDS = (
    "above and as catch class def else false if int is new nil not or read rem return row self show sign size "
    "tell text throw true truth try var while"
).split()

# One of each word, with the text that tells it.
EXPRESSIONS = (
    (("int", 0), "0"),
    (("int", 7), "7"),
    (("int", -7), "-7"),
    (("int", 2147483647), "2147483647"),
    (("int", -2147483648), "-2147483648"),
    (("truth", True), "true"),
    (("truth", False), "false"),
    (("text", ""), '""'),
    (("text", " a; { ~ - 1"), '" a; { ~ - 1"'),
    (("nil",), "nil"),
    (("name", "x"), "x"),
    (("name", "self"), "self"),
    (("get", ("name", "x"), "f"), "( x . f )"),
    (("at", ("name", "x"), ("int", 1)), "( x [ 1 ] )"),
    (("call", "go", ()), "( go ( ) )"),
    (("call", "go", (("int", 1), ("int", -2), ("nil",))), "( go ( 1 , -2 , nil ) )"),
    (("ask", ("name", "x"), "m", ()), "( x . m ( ) )"),
    (("ask", ("name", "self"), "m", (("int", 1), ("int", 2))), "( self . m ( 1 , 2 ) )"),
    (("new", "Box"), "( new Box )"),
    (("row", "int", ("int", 3)), "( row int [ 3 ] )"),
    (("row", "truth", ("int", 3)), "( row truth [ 3 ] )"),
    (("row", ("row", ("row", ("of", "Box"))), ("int", 3)), "( row row row Box [ 3 ] )"),
    (("op", "+", ("int", 1), ("int", 2)), "( 1 + 2 )"),
    (("op", "-", ("int", 1), ("int", -2)), "( 1 - -2 )"),
    (("op", "*", ("int", 1), ("int", 2)), "( 1 * 2 )"),
    (("op", "/", ("int", 1), ("int", 2)), "( 1 / 2 )"),
    (("op", "rem", ("int", 1), ("int", 2)), "( 1 rem 2 )"),
    (("op", "<", ("int", 1), ("int", 2)), "( 1 < 2 )"),
    (("op", "=", ("int", 1), ("int", 2)), "( 1 = 2 )"),
    (("op", "and", ("truth", True), ("truth", False)), "( true and false )"),
    (("op", "or", ("truth", True), ("truth", False)), "( true or false )"),
    (("not", ("truth", True)), "( not true )"),
    (("is", ("name", "x"), "Box"), "( x is Box )"),
    (("as", ("name", "x"), "Box"), "( x as Box )"),
    (("size", ("name", "x")), "( size x )"),
    (("sign", ("text", "ab"), ("int", 1)), '( "ab" sign 1 )'),
    (("tell", ("int", 5)), "( tell 5 )"),
    (("read",), "read"),
    (("op", "+", ("op", "*", ("name", "a"), ("int", -3)), ("get", ("name", "self"), "f")),
     "( ( a * -3 ) + ( self . f ) )"),
)

STATEMENTS = (
    (("var", "x", "int", ("int", 1)), "var int x = 1 ;"),
    (("var", "x", ("row", ("row", ("row", "text"))), ("nil",)), "var row row row text x = nil ;"),
    (("var", "x", ("of", "Box"), ("nil",)), "var Box x = nil ;"),
    (("set", "x", ("int", -1)), "x = -1 ;"),
    (("put", ("name", "x"), "f", ("int", 1)), "x . f = 1 ;"),
    (("put", ("get", ("name", "self"), "g"), "f", ("int", 1)), "( self . g ) . f = 1 ;"),
    (("place", ("name", "x"), ("int", 0), ("int", 1)), "x [ 0 ] = 1 ;"),
    (("place", ("at", ("name", "x"), ("int", 2)), ("int", 0), ("int", 1)), "( x [ 2 ] ) [ 0 ] = 1 ;"),
    (("if", ("truth", True), (), ()), "if true { } else { }"),
    (("if", ("name", "t"), (("show", ("int", 1)),), (("return", None), ("return", None))),
     "if t { show 1 ; } else { return ; return ; }"),
    (("while", ("truth", False), ()), "while false { }"),
    (("while", ("name", "t"), (("set", "t", ("truth", False)), ("do", ("read",)))),
     "while t { t = false ; read ; }"),
    (("return", None), "return ;"),
    (("return", ("int", -5)), "return -5 ;"),
    (("throw", ("nil",)), "throw nil ;"),
    (("try", (("show", ("int", 1)),), "e", "Box", (("throw", ("name", "e")),)),
     "try { show 1 ; } catch Box e { throw e ; }"),
    (("try", (), "e", "Box", ()), "try { } catch Box e { }"),
    (("show", ("text", "hi")), 'show "hi" ;'),
    (("do", ("call", "go", ())), "( go ( ) ) ;"),
    (("do", ("int", -1)), "-1 ;"),
    (("do", ("name", "x")), "x ;"),
    (("do", ("name", "self")), "self ;"),
)

# A program with every word, two classes, and what may be missing there and not there.
WHOLE = (
    (
        ("Box", None, (), ()),
        ("Case", "Box", (("f", "int"), ("g", ("row", ("of", "Box")))), (
            ("m", (("a", "int"), ("b", "text")), "truth", (("return", ("truth", True)),)),
            ("go", (), None, ()),
        )),
    ),
    (
        ("all", (("x", ("of", "Case")),), ("row", "int"),
         tuple(statement for statement, _ in STATEMENTS[:4] + STATEMENTS[4:14])),
        ("more", (), None, tuple(statement for statement, _ in STATEMENTS[14:])),
        ("each", (), None, tuple(("do", expression) for expression, _ in EXPRESSIONS)),
        ("main", (), None, ()),
    ),
)

WHOLE_TEXT = (
    "class Box { } class Case above Box { int f ; row Box g ; "
    "def m ( int a , text b ) : truth { return true ; } def go ( ) { } } "
    "def all ( Case x ) : row int { " + " ".join(text for _, text in STATEMENTS[:14]) + " } "
    "def more ( ) { " + " ".join(text for _, text in STATEMENTS[14:]) + " } "
    "def each ( ) { " + " ".join(text + " ;" for _, text in EXPRESSIONS) + " } "
    "def main ( ) { }"
)


def program_of(*statements):
    """A program of a function main alone, with these statements."""
    return ((), (("main", (), None, statements),))


def with_kind(kind):
    """A program in which a var has this kind."""
    return program_of(("var", "x", kind, ("nil",)))


def deep(many):
    """An expression that is a chain of so many."""
    expression = ("read",)
    for _ in range(many - 1):
        expression = ("not", expression)
    return expression


def spread(text):
    """The words of a text that write_program has written, with their places."""
    words = []
    at = 0
    while at < len(text):
        end = text.index('"', at + 1) + 1 if text[at] == '"' else at
        while end < len(text) and text[end] != " ":
            end += 1
        words.append((at, text[at:end]))
        at = end + 1
    return words


def packed(text):
    """The same text without the blanks that no word needs."""
    out = ""
    for _, word in spread(text):
        if out and out[-1].isalnum() and word[0].isalnum():
            out += " "
        out += word
    return out


def stretched(text):
    """The same text with many blanks and line feeds, at both ends too."""
    gaps = ("  ", "\n", " \n\n ", "\n ")
    out = "\n "
    for at, (_, word) in enumerate(spread(text)):
        out += word + gaps[at % len(gaps)]
    return out
