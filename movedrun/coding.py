"""The code of a body, written in the sequence of its text."""

from movedrun.family import NIL, class_of, entry_of
from movedrun.layout import handed_in

# Expressions that are instructions themselves, with their kinds.
PLAIN = {"int": "int", "truth": "truth", "text": "text", "nil": NIL, "read": "int"}

OPERATIONS = {"+": "add", "-": "sub", "*": "mul", "/": "div", "rem": "rem", "<": "less", "=": "same"}


class Coding:
    """The code, the catches and the slots of a function, as far as they are written."""

    def __init__(self, layout, owner, function):
        self.layout = layout
        self.code = []
        self.catches = []
        # Of each statement and expression, in the sequence of the text, the place at which it begins.
        self.places = []
        params = handed_in(owner, function)
        self.kinds = [kind for _, kind in params]
        # The slots of the names in reach; a name that is out of reach may come anew, with a slot of its own.
        self.slots = {name: slot for slot, (name, _) in enumerate(params)}
        code_block(self, function[3])
        code_end(self, function[2])

    def write(self, *instruction):
        self.code.append(instruction)

    def begin(self):
        self.places.append(len(self.code))

    def write_ahead(self, word):
        """A jump or if whose target is still to be written; returns its place."""
        self.write(word, None)
        return len(self.code) - 1

    def lead_here(self, place):
        """The target of such a one is what is written next."""
        self.code[place] = (self.code[place][0], len(self.code))

    def new_slot(self, name, kind):
        self.slots[name] = len(self.kinds)
        self.kinds.append(kind)
        return self.slots[name]


def code_end(coding, result):
    """A run that falls off the end of a body is done; with a result none does, but the verifier can not know."""
    if result == "int":
        coding.write("int", 0)
    elif result == "truth":
        coding.write("truth", False)
    elif result is not None:
        coding.write("nil")
    coding.write("done")


def code_block(coding, block):
    for statement in block:
        coding.begin()
        rule = STATEMENT_RULES[statement[0]]
        rule(coding, statement)


def code_var(coding, statement):
    _, name, kind, value = statement
    code_of(coding, value)
    coding.write("store", coding.new_slot(name, kind))


def code_set(coding, statement):
    code_of(coding, statement[2])
    coding.write("store", coding.slots[statement[1]])


def code_put(coding, statement):
    _, thing, field, value = statement
    name = class_of(code_of(coding, thing))
    code_of(coding, value)
    coding.write("put", name, field)


def code_set_entry(coding, statement):
    for part in statement[1:]:
        code_of(coding, part)
    coding.write("set")


def code_if(coding, statement):
    _, test, first, second = statement
    to_second = code_unless(coding, test)
    code_block(coding, first)
    to_end = coding.write_ahead("jump")
    coding.lead_here(to_second)
    code_block(coding, second)
    coding.lead_here(to_end)


def code_unless(coding, test):
    """Goes elsewhere if the test is false; returns the place of the if that does."""
    code_of(coding, test)
    coding.write("not")
    return coding.write_ahead("if")


def code_while(coding, statement):
    _, test, block = statement
    begin = len(coding.code)
    to_end = code_unless(coding, test)
    code_block(coding, block)
    # The one jump back: so the beat comes ahead of the test.
    coding.write("jump", begin)
    coding.lead_here(to_end)


def code_return(coding, statement):
    if statement[1] is not None:
        code_of(coding, statement[1])
    coding.write("done")


def code_throw(coding, statement):
    code_of(coding, statement[1])
    coding.write("throw")


def code_try(coding, statement):
    _, first, name, caught, second = statement
    begin = len(coding.code)
    # It does nothing, but the try needs a place of its own, and its range an instruction.
    coding.lead_here(coding.write_ahead("jump"))
    code_block(coding, first)
    end = len(coding.code)
    to_end = coding.write_ahead("jump")
    # The tries within the first block have put theirs ahead, so that they are asked first.
    coding.catches.append((begin, end, len(coding.code), caught))
    coding.write("store", coding.new_slot(name, ("of", caught)))
    code_block(coding, second)
    coding.lead_here(to_end)


def code_show(coding, statement):
    code_of(coding, statement[1])
    coding.write("show")


def code_do(coding, statement):
    if code_of(coding, statement[1]) is not None:
        coding.write("drop")


def code_of(coding, expression):
    """Writes an expression's code and returns its kind, None if it has no result."""
    coding.begin()
    word = expression[0]
    if word in PLAIN:
        coding.code.append(expression)
        return PLAIN[word]
    rule = EXPRESSION_RULES[word]
    return rule(coding, expression)


def code_name(coding, expression):
    slot = coding.slots[expression[1]]
    coding.write("load", slot)
    return coding.kinds[slot]


def code_get(coding, expression):
    _, thing, field = expression
    name = class_of(code_of(coding, thing))
    coding.write("get", name, field)
    return coding.layout.family.field_kind(name, field)


def code_at(coding, expression):
    entry = entry_of(code_of(coding, expression[1]))
    code_of(coding, expression[2])
    coding.write("at")
    return entry


def code_call(coding, expression):
    _, name, args = expression
    for part in args:
        code_of(coding, part)
    coding.write("call", coding.layout.index_of(None, name))
    return coding.layout.called(name)[2]


def code_ask(coding, expression):
    _, thing, method, args = expression
    name = class_of(code_of(coding, thing))
    for part in args:
        code_of(coding, part)
    coding.write("ask", name, method)
    return coding.layout.family.method(name, method)[2]


def code_new(coding, expression):
    coding.code.append(expression)
    return ("of", expression[1])


def code_row(coding, expression):
    _, kind, number = expression
    code_of(coding, number)
    coding.write("row", kind)
    return ("row", kind)


def code_op(coding, expression):
    _, sign, first, second = expression
    if sign == "and" or sign == "or":
        return code_choice(coding, expression)
    kind = code_of(coding, first)
    code_of(coding, second)
    coding.write(OPERATIONS[sign])
    if sign == "+":
        return "int" if kind == "int" else "text"
    return "int" if sign not in ("<", "=") else "truth"


def code_choice(coding, expression):
    """An and or an or: its second side is left out where the first tells."""
    _, sign, first, second = expression
    code_of(coding, first)
    if sign == "and":
        coding.write("not")
    to_told = coding.write_ahead("if")
    code_of(coding, second)
    to_end = coding.write_ahead("jump")
    coding.lead_here(to_told)
    coding.write("truth", sign == "or")
    coding.lead_here(to_end)
    return "truth"


def code_not(coding, expression):
    code_of(coding, expression[1])
    coding.write("not")
    return "truth"


def code_is(coding, expression):
    code_of(coding, expression[1])
    coding.write("is", expression[2])
    return "truth"


def code_as(coding, expression):
    code_of(coding, expression[1])
    coding.write("as", expression[2])
    return ("of", expression[2])


def code_size(coding, expression):
    code_of(coding, expression[1])
    coding.write("size")
    return "int"


def code_sign(coding, expression):
    code_of(coding, expression[1])
    code_of(coding, expression[2])
    coding.write("sign")
    return "int"


def code_tell(coding, expression):
    code_of(coding, expression[1])
    coding.write("tell")
    return "text"


STATEMENT_RULES = {
    "var": code_var,
    "set": code_set,
    "put": code_put,
    "place": code_set_entry,
    "if": code_if,
    "while": code_while,
    "return": code_return,
    "throw": code_throw,
    "try": code_try,
    "show": code_show,
    "do": code_do,
}

EXPRESSION_RULES = {
    "name": code_name,
    "get": code_get,
    "at": code_at,
    "call": code_call,
    "ask": code_ask,
    "new": code_new,
    "row": code_row,
    "op": code_op,
    "not": code_not,
    "is": code_is,
    "as": code_as,
    "size": code_size,
    "sign": code_sign,
    "tell": code_tell,
}
