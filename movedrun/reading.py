"""A program out of the words of its text: each function goes past what it returns."""

from movedrun.errors import BadText
from movedrun.forms import MOST_ENTRY_ROWS, MOST_ROWS, PLAIN_KINDS, is_name
from movedrun.parts import SIGNS
from movedrun.words import is_number, is_quoted


def read_words(words):
    """The program that all the words tell, whatever its bounds."""
    classes = []
    while words.word == "class":
        classes.append(read_class(words))
    functions = read_functions(words)
    if words.word != "":
        raise BadText(words.place)
    return (tuple(classes), functions)


def read_class(words):
    words.take("class")
    name = words.take_name()
    above = None
    if words.word == "above":
        words.step()
        above = words.take_name()
    words.take("{")
    fields = []
    while words.word != "def" and words.word != "}":
        fields.append(read_named_kind(words))
        words.take(";")
    methods = read_functions(words)
    words.take("}")
    return (name, above, tuple(fields), methods)


def read_functions(words):
    functions = []
    while words.word == "def":
        functions.append(read_function(words))
    return tuple(functions)


def read_function(words):
    words.take("def")
    name = words.take_name()
    words.take("(")
    params = []
    while words.word != ")":
        if params:
            words.take(",")
        params.append(read_named_kind(words))
    words.take(")")
    result = None
    if words.word == ":":
        words.step()
        result = read_kind(words, MOST_ROWS)
    return (name, tuple(params), result, read_block(words))


def read_named_kind(words):
    """A field or a param: in the text the kind is ahead of the name."""
    kind = read_kind(words, MOST_ROWS)
    return (words.take_name(), kind)


def read_kind(words, rows):
    """A kind with at most so many rows within one another."""
    word = words.word
    if word in PLAIN_KINDS:
        words.step()
        return word
    if word == "row" and rows > 0:
        words.step()
        return ("row", read_kind(words, rows - 1))
    return ("of", words.take_name())


def read_block(words):
    words.take("{")
    statements = []
    while words.word != "}":
        statements.append(read_statement(words))
    words.take("}")
    return tuple(statements)


def read_statement(words):
    if words.word not in STATEMENT_RULES:
        return read_wordless(words)
    rule = STATEMENT_RULES[words.word]
    words.step()
    return rule(words)


def read_var(words):
    name, kind = read_named_kind(words)
    words.take("=")
    return ("var", name, kind, read_last(words))


def read_last(words):
    """The expression that ends a statement, and the ; behind it."""
    expression = read_expression(words)
    words.take(";")
    return expression


def read_if(words):
    test = read_expression(words)
    first = read_block(words)
    words.take("else")
    return ("if", test, first, read_block(words))


def read_while(words):
    test = read_expression(words)
    return ("while", test, read_block(words))


def read_return(words):
    if words.word == ";":
        words.step()
        return ("return", None)
    return ("return", read_last(words))


def read_throw(words):
    return ("throw", read_last(words))


def read_try(words):
    first = read_block(words)
    words.take("catch")
    caught = words.take_name()
    name = words.take_name()
    return ("try", first, name, caught, read_block(words))


def read_show(words):
    return ("show", read_last(words))


def read_wordless(words):
    """A statement that begins with an expression, or with the name that it sets."""
    begin = read_expression(words)
    if words.word == "=" and is_own_name(begin):
        words.step()
        return ("set", begin[1], read_last(words))
    if words.word == ".":
        words.step()
        field = words.take_name()
        words.take("=")
        return ("put", begin, field, read_last(words))
    if words.word == "[":
        index = read_index(words)
        words.take("=")
        return ("place", begin, index, read_last(words))
    words.take(";")
    return ("do", begin)


def is_own_name(expression):
    """self is set by none and called by none."""
    return expression[0] == "name" and expression[1] != "self"


def read_index(words):
    words.take("[")
    index = read_expression(words)
    words.take("]")
    return index


def read_expression(words):
    words.join_minus()
    word = words.word
    if word == "(":
        return read_bracket(words)
    if is_number(word):
        found = ("int", int(word))
    elif word == "true" or word == "false":
        found = ("truth", word == "true")
    elif word == "nil" or word == "read":
        found = (word,)
    elif is_quoted(word):
        found = ("text", word[1:-1])
    elif word == "self" or is_name(word):
        found = ("name", word)
    else:
        raise BadText(words.place)
    words.step()
    return found


def read_bracket(words):
    words.take("(")
    word = words.word
    if word == "not" or word == "size" or word == "tell":
        words.step()
        found = (word, read_expression(words))
    elif word == "new":
        words.step()
        found = ("new", words.take_name())
    elif word == "row":
        words.step()
        kind = read_kind(words, MOST_ENTRY_ROWS)
        found = ("row", kind, read_index(words))
    else:
        found = read_behind(words, read_expression(words))
    words.take(")")
    return found


def read_behind(words, first):
    """The expression in brackets that begins with another expression."""
    word = words.word
    if word == "[":
        return ("at", first, read_index(words))
    if word == "(" and is_own_name(first):
        return ("call", first[1], read_args(words))
    if word == ".":
        words.step()
        name = words.take_name()
        if words.word == "(":
            return ("ask", first, name, read_args(words))
        return ("get", first, name)
    if word == "is" or word == "as":
        words.step()
        return (word, first, words.take_name())
    if word == "sign":
        words.step()
        return ("sign", first, read_expression(words))
    if word not in SIGNS:
        raise BadText(words.place)
    words.step()
    return ("op", word, first, read_expression(words))


def read_args(words):
    words.take("(")
    args = []
    while words.word != ")":
        if args:
            words.take(",")
        args.append(read_expression(words))
    words.take(")")
    return tuple(args)


STATEMENT_RULES = {
    "var": read_var,
    "if": read_if,
    "while": read_while,
    "return": read_return,
    "throw": read_throw,
    "try": read_try,
    "show": read_show,
}
