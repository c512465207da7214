"""Modules and their texts that several tests are built from."""

# One of each instruction, with the row that tells it.
INSTRUCTIONS = (
    (("int", 0), "int 0"),
    (("int", 2147483647), "int 2147483647"),
    (("int", -2147483648), "int -2147483648"),
    (("truth", True), "truth true"),
    (("truth", False), "truth false"),
    (("text", ""), "text -"),
    (("text", "-"), "text 45"),
    (("text", "a ~,"), "text 97,32,126,44"),
    (("text", "x" * 40), "text " + ",".join(["120"] * 40)),
    (("nil",), "nil"),
    (("load", 0), "load 0"),
    (("store", 9999), "store 9999"),
    (("drop",), "drop"),
    (("twin",), "twin"),
    (("add",), "add"),
    (("sub",), "sub"),
    (("mul",), "mul"),
    (("div",), "div"),
    (("rem",), "rem"),
    (("less",), "less"),
    (("same",), "same"),
    (("not",), "not"),
    (("jump", 0), "jump 0"),
    (("if", 12), "if 12"),
    (("call", 59), "call 59"),
    (("ask", "A", "m"), "ask A m"),
    (("done",), "done"),
    (("new", "A"), "new A"),
    (("get", "A", "f"), "get A f"),
    (("put", "A", "f"), "put A f"),
    (("row", "int"), "row int"),
    (("row", ("row", ("row", ("of", "A")))), "row row row of A"),
    (("at",), "at"),
    (("set",), "set"),
    (("size",), "size"),
    (("sign",), "sign"),
    (("tell",), "tell"),
    (("is", "A"), "is A"),
    (("as", "A"), "as A"),
    (("throw",), "throw"),
    (("show",), "show"),
    (("read",), "read"),
)

KINDS = (
    ("int", "int"), ("truth", "truth"), ("text", "text"), (("of", "A"), "of A"), (("row", "int"), "row int"),
    (("row", ("row", ("row", "truth"))), "row row row truth"), (("row", ("of", "A")), "row of A"),
)

# A module with every sort of row.
WHOLE = (
    (
        ("A", None, (), ()),
        ("B2", "Gone", (("f", "int"), ("g", ("row", ("of", "A")))), (("m", 0), ("go", 9999))),
    ),
    (
        ("main", (), None, (), (("done",),), ()),
        ("A.m", tuple(kind for kind, _ in KINDS), ("row", ("row", ("row", "int"))), tuple(kind for kind, _ in KINDS),
         tuple(instruction for instruction, _ in INSTRUCTIONS), ((0, 1, 2, "A"), (9999, 0, 9999, "B2"))),
        ("main", (), "int", ("text",), (("done",),), ()),
    ),
    7,
)

WHOLE_TEXT = "\n".join(
    ["main 7", "class A -", "class B2 Gone", "field f int", "field g row of A", "method m 0", "method go 9999",
     "function main -", "done", "function A.m row row row int"]
    + ["param " + row for _, row in KINDS] + ["local " + row for _, row in KINDS] + [row for _, row in INSTRUCTIONS]
    + ["catch 0 1 2 A", "catch 9999 0 9999 B2", "function main int", "local text", "done"])


def function_of(name="f", params=(), result=None, own=(), code=(("done",),), catches=()):
    return (name, params, result, own, code, catches)


def module_of(*functions, classes=(), main=0):
    return (classes, functions, main)


def class_of(name="A", above=None, fields=(), methods=()):
    return (name, above, fields, methods)


def with_code(*code):
    return module_of(function_of(code=code))


# A tree of classes for the verifier: B and C are below A, E is below B, D is by itself.
TREE = (
    ("A", None, (("n", "int"), ("next", ("of", "A")), ("t", "text"), ("r", ("row", "int"))), (("m", 1), ("k", 3))),
    ("B", "A", (("b", ("of", "B")),), (("m", 2),)),
    ("C", "A", (), ()),
    ("E", "B", (), ()),
    ("D", None, (), (("m", 4),)),
)

# What the functions behind main are, from the index 1 on; 5 to 7 are no methods.
OTHERS = (
    ("A.m", (("of", "A"), "int"), "int", (), (("load", 1), ("done",)), ()),
    ("B.m", (("of", "B"), "int"), "int", (), (("load", 1), ("done",)), ()),
    ("A.k", (("of", "A"), ("of", "B")), None, (), (("done",),), ()),
    ("D.m", (("of", "D"),), "text", (), (("nil",), ("done",)), ()),
    ("f", ("int", ("of", "A")), ("of", "B"), (), (("nil",), ("done",)), ()),
    ("g", (), None, (), (("done",),), ()),
    ("h", ("text", ("row", "int")), None, (), (("done",),), ()),
)


def read_code(text):
    """Instructions as rows tell them, with ; between."""
    code = []
    for row in text.split(";"):
        word, *borne = row.split()
        if word == "text":
            code.append(("text", "".join(borne)))
        elif word == "row":
            kind = borne[-1] if borne[-1] in ("int", "truth", "text") else ("of", borne[-1])
            for _ in borne[:-1]:
                kind = ("row", kind)
            code.append(("row", kind))
        else:
            code.append((word, *[{"true": True, "false": False}.get(part, int(part) if part.lstrip("-").isdigit() else part)
                                 for part in borne]))
    return tuple(code)


def tree_module(text, own=(), catches=()):
    """A module of the tree, with this code as main's, which has these locals."""
    return (TREE, (("main", (), None, own, read_code(text), catches), *OTHERS), 0)
