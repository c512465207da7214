"""Modules of which a few instructions are exchanged for others: what no compiler made, and is let by at times."""

SPOILERS = (
    ("nil",), ("int", 0), ("int", 1), ("truth", True), ("text", "ab"), ("drop",), ("twin",), ("add",), ("sub",), ("same",),
    ("less",), ("not",), ("at",), ("set",), ("size",), ("sign",), ("tell",), ("throw",), ("show",), ("read",), ("done",),
)

# Words that one may stand for another of, as they take and put as many values.
LIKE = (("int", "truth", "text", "nil", "load", "new", "read"), ("add", "sub", "mul", "div", "rem", "less", "same", "at", "sign"),
        ("drop", "store", "show"), ("not", "get", "size", "tell", "is", "as", "row"))


def spoiled(chance, module):
    """A few of its instructions are exchanged for others, of its own or not."""
    classes, functions, main = module
    functions = list(functions)
    for _ in range(chance.randrange(1, 3)):
        index = chance.randrange(len(functions))
        function = list(functions[index])
        code = list(function[4])
        place = chance.randrange(len(code))
        others = [each for each in LIKE if code[place][0] in each] or [SPOILERS]
        word = others[0][chance.randrange(len(others[0]))]
        if chance.randrange(4) == 0:
            code[place] = SPOILERS[chance.randrange(len(SPOILERS))]
        elif isinstance(word, tuple):
            code[place] = word
        else:
            # Of the function itself, one that leaves as much on the stack.
            own = [each for each in code if each[0] in others[0]]
            code[place] = own[chance.randrange(len(own))]
        function[4] = tuple(code)
        begin, end, to = sorted(chance.randrange(len(code)) for _ in range(3))
        if classes and len(function[5]) < 10 and chance.randrange(3) == 0:
            function[5] += ((begin, end, to, classes[chance.randrange(len(classes))][0]),)
        functions[index] = tuple(function)
    return (classes, tuple(functions), main)
