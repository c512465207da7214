"""A program's words, in the sequence of its text."""

from movedrun.parts import EXPRESSIONS, STATEMENTS

# A number stands for the part of this number, parts counted from 1.
STATEMENT_TEXTS = {
    "var": ("var", 2, 1, "=", 3, ";"),
    "set": (1, "=", 2, ";"),
    "put": (1, ".", 2, "=", 3, ";"),
    "place": (1, "[", 2, "]", "=", 3, ";"),
    "if": ("if", 1, 2, "else", 3),
    "while": ("while", 1, 2),
    "return": ("return", 1, ";"),
    "throw": ("throw", 1, ";"),
    "try": ("try", 1, "catch", 3, 2, 4),
    "show": ("show", 1, ";"),
    "do": (1, ";"),
}

EXPRESSION_TEXTS = {
    "int": (1,),
    "truth": (1,),
    "text": (1,),
    "nil": ("nil",),
    "name": (1,),
    "get": ("(", 1, ".", 2, ")"),
    "at": ("(", 1, "[", 2, "]", ")"),
    "call": ("(", 1, "(", 2, ")", ")"),
    "ask": ("(", 1, ".", 2, "(", 3, ")", ")"),
    "new": ("(", "new", 1, ")"),
    "row": ("(", "row", 1, "[", 2, "]", ")"),
    "op": ("(", 2, 1, 3, ")"),
    "not": ("(", "not", 1, ")"),
    "is": ("(", 1, "is", 2, ")"),
    "as": ("(", 1, "as", 2, ")"),
    "size": ("(", "size", 1, ")"),
    "sign": ("(", 1, "sign", 2, ")"),
    "tell": ("(", "tell", 1, ")"),
    "read": ("read",),
}


def program_words(program):
    words = []
    for each in program[0]:
        add_class(words, each)
    for function in program[1]:
        add_function(words, function)
    return words


def add_class(words, each):
    name, above, fields, methods = each
    words.extend(["class", name])
    if above is not None:
        words.extend(["above", above])
    words.append("{")
    for field, kind in fields:
        words.extend(kind_words(kind))
        words.extend([field, ";"])
    for method in methods:
        add_function(words, method)
    words.append("}")


def add_function(words, function):
    name, params, result, body = function
    words.extend(["def", name, "("])
    for at, (param, kind) in enumerate(params):
        if at > 0:
            words.append(",")
        words.extend(kind_words(kind))
        words.append(param)
    words.append(")")
    if result is not None:
        words.append(":")
        words.extend(kind_words(result))
    add_block(words, body)


def kind_words(kind):
    if isinstance(kind, str):
        return [kind]
    if kind[0] == "row":
        return ["row", *kind_words(kind[1])]
    return [kind[1]]


def add_block(words, block):
    words.append("{")
    for statement in block:
        word = statement[0]
        add_node(words, statement, STATEMENTS[word], STATEMENT_TEXTS[word])
    words.append("}")


def add_expression(words, expression):
    word = expression[0]
    add_node(words, expression, EXPRESSIONS[word], EXPRESSION_TEXTS[word])


def add_node(words, node, sorts, pattern):
    for item in pattern:
        if isinstance(item, str):
            words.append(item)
        else:
            add_part(words, sorts[item - 1], node[item])


def add_part(words, sort, part):
    if sort == "expression":
        add_expression(words, part)
    elif sort == "block":
        add_block(words, part)
    elif sort == "args":
        add_args(words, part)
    elif sort == "value":
        if part is not None:
            add_expression(words, part)
    elif sort == "kind" or sort == "entry":
        words.extend(kind_words(part))
    else:
        words.append(leaf_word(sort, part))


def add_args(words, args):
    for at, part in enumerate(args):
        if at > 0:
            words.append(",")
        add_expression(words, part)


def leaf_word(sort, part):
    if sort == "int":
        return str(part)
    if sort == "truth":
        return "true" if part else "false"
    if sort == "text":
        return '"' + part + '"'
    return part
