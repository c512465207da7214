"""Looks at a body as one goes through it; the first thing that is wrong is raised as NotLetBy."""

from movedrun.errors import NotLetBy
from movedrun.family import NIL, class_of, entry_of

SHOWN_KINDS = ("int", "truth", "text", NIL)

# Of expressions that have no parts to look at.
LEAF_KINDS = {"int": "int", "truth": "truth", "text": "text", "nil": NIL, "read": "int"}


class BodyLook:
    """What is known at a moment of the way through a body."""

    def __init__(self, family, functions, owner, function):
        self.family = family
        self.functions = functions
        self.owner = owner
        self.function = function
        # How many statements and expressions were begun: the index of the next one.
        self.begun = 0
        # The names in reach, with their kinds; an ended block takes its own ones off the end.
        self.reach = list(function[1])

    def refuse(self, word, at):
        raise NotLetBy((word, (self.owner, self.function[0], at)))

    def begin(self):
        self.begun += 1
        return self.begun - 1

    def kind_in_reach(self, name):
        """The kind of a name, None if it is not in reach."""
        if name == "self":
            return None if self.owner is None else ("of", self.owner)
        for known, kind in self.reach:
            if known == name:
                return kind
        return None


def look_at_body(family, functions, owner, function):
    """functions are those of the program by their names; owner is a method's class, or None."""
    look = BodyLook(family, functions, owner, function)
    look_at_block(look, function[3])
    if function[2] is not None and not is_ended(function[3]):
        look.refuse("result", None)


def is_ended(block):
    """Whether the end of a block can not be come to."""
    for statement in block:
        if ends_block(statement):
            return True
    return False


def ends_block(statement):
    word = statement[0]
    if word == "return" or word == "throw":
        return True
    if word == "if":
        return is_ended(statement[2]) and is_ended(statement[3])
    if word == "try":
        return is_ended(statement[1]) and is_ended(statement[4])
    return word == "while" and statement[1] == ("truth", True)


def look_at_block(look, block):
    ahead = len(look.reach)
    for statement in block:
        rule = STATEMENT_RULES[statement[0]]
        rule(look, statement, look.begin())
    del look.reach[ahead:]


def look_at_var(look, statement, at):
    _, name, kind, value = statement
    if look.kind_in_reach(name) is not None:
        look.refuse("double", at)
    if not look.family.knows(kind):
        look.refuse("class", at)
    look_for_fit(look, value, kind)
    look.reach.append((name, kind))


def look_at_set(look, statement, at):
    kind = look.kind_in_reach(statement[1])
    if kind is None:
        look.refuse("name", at)
    look_for_fit(look, statement[2], kind)


def look_at_put(look, statement, at):
    _, thing, field, value = statement
    kind = look.family.field_kind(look_for_object(look, thing), field)
    if kind is None:
        look.refuse("name", at)
    look_for_fit(look, value, kind)


def look_at_place(look, statement, at):
    _, row, index, value = statement
    entry = look_for_row(look, row)
    look_for_fit(look, index, "int")
    look_for_fit(look, value, entry)


def look_at_if(look, statement, at):
    _, test, first, second = statement
    look_for_fit(look, test, "truth")
    look_at_block(look, first)
    look_at_block(look, second)


def look_at_while(look, statement, at):
    look_for_fit(look, statement[1], "truth")
    look_at_block(look, statement[2])


def look_at_return(look, statement, at):
    value = statement[1]
    result = look.function[2]
    if (value is None) != (result is None):
        look.refuse("result", at)
    if value is not None:
        look_for_fit(look, value, result)


def look_at_throw(look, statement, at):
    part = look.begun
    kind = kind_of(look, statement[1])
    if kind != NIL and class_of(kind) is None:
        look.refuse("kind", part)


def look_at_try(look, statement, at):
    _, first, name, caught, second = statement
    if not look.family.has(caught):
        look.refuse("class", at)
    if look.kind_in_reach(name) is not None:
        look.refuse("double", at)
    look_at_block(look, first)
    look.reach.append((name, ("of", caught)))
    look_at_block(look, second)
    look.reach.pop()


def look_at_show(look, statement, at):
    look_for_one_of(look, statement[1], SHOWN_KINDS)


def look_at_do(look, statement, at):
    kind_of(look, statement[1])


def kind_of(look, expression):
    """Looks at an expression wholly and returns its kind, None if it has no result."""
    at = look.begin()
    word = expression[0]
    if word in LEAF_KINDS:
        return LEAF_KINDS[word]
    rule = EXPRESSION_RULES[word]
    return rule(look, expression, at)


def look_for_fit(look, part, wanted):
    """Looks at a part wholly, and then whether its kind fits the one that is wanted."""
    at = look.begun
    kind = kind_of(look, part)
    if not look.family.fits(kind, wanted):
        look.refuse("kind", at)


def look_for_one_of(look, part, kinds):
    at = look.begun
    kind = kind_of(look, part)
    if kind not in kinds:
        look.refuse("kind", at)
    return kind


def look_for_object(look, part):
    """Looks at a part that must be an object, and returns its class's name."""
    at = look.begun
    name = class_of(kind_of(look, part))
    if name is None:
        look.refuse("kind", at)
    return name


def look_for_row(look, part):
    """Looks at a part that must be a row, and returns its entries' kind."""
    at = look.begun
    entry = entry_of(kind_of(look, part))
    if entry is None:
        look.refuse("kind", at)
    return entry


def kind_of_name(look, expression, at):
    kind = look.kind_in_reach(expression[1])
    if kind is None:
        look.refuse("name", at)
    return kind


def kind_of_get(look, expression, at):
    kind = look.family.field_kind(look_for_object(look, expression[1]), expression[2])
    if kind is None:
        look.refuse("name", at)
    return kind


def kind_of_at(look, expression, at):
    entry = look_for_row(look, expression[1])
    look_for_fit(look, expression[2], "int")
    return entry


def kind_of_call(look, expression, at):
    _, name, args = expression
    if name not in look.functions:
        look.refuse("name", at)
    return kind_of_result(look, look.functions[name], args, at)


def kind_of_ask(look, expression, at):
    _, thing, name, args = expression
    method = look.family.method(look_for_object(look, thing), name)
    if method is None:
        look.refuse("name", at)
    return kind_of_result(look, method, args, at)


def kind_of_result(look, function, args, at):
    """Looks at the args that a function or a method is handed, and returns its result's kind."""
    _, params, result, _ = function
    if len(args) != len(params):
        look.refuse("count", at)
    for part, (_, kind) in zip(args, params):
        look_for_fit(look, part, kind)
    return result


def kind_of_new(look, expression, at):
    if not look.family.has(expression[1]):
        look.refuse("class", at)
    return ("of", expression[1])


def kind_of_row(look, expression, at):
    _, kind, number = expression
    if not look.family.knows(kind):
        look.refuse("class", at)
    look_for_fit(look, number, "int")
    return ("row", kind)


def kind_of_op(look, expression, at):
    _, sign, first, second = expression
    if sign == "+":
        return kind_of_sum(look, first, second)
    if sign == "=":
        return kind_of_same(look, first, second)
    sides = "truth" if sign == "and" or sign == "or" else "int"
    look_for_fit(look, first, sides)
    look_for_fit(look, second, sides)
    return "truth" if sign == "<" else sides


def kind_of_sum(look, first, second):
    kind = look_for_one_of(look, first, ("int", "text", NIL))
    both = "int" if kind == "int" else "text"
    look_for_fit(look, second, both)
    return both


def kind_of_same(look, first, second):
    at = look.begun
    kind = kind_of(look, first)
    if kind is None:
        look.refuse("kind", at)
    at = look.begun
    if not look.family.may_be_same(kind, kind_of(look, second)):
        look.refuse("kind", at)
    return "truth"


def kind_of_not(look, expression, at):
    look_for_fit(look, expression[1], "truth")
    return "truth"


def kind_of_is(look, expression, at):
    look_for_line(look, expression, at)
    return "truth"


def kind_of_as(look, expression, at):
    look_for_line(look, expression, at)
    return ("of", expression[2])


def look_for_line(look, expression, at):
    """Looks at an is or as: its class, then the object, which must be of that class's line."""
    _, thing, name = expression
    if not look.family.has(name):
        look.refuse("class", at)
    part = look.begun
    if not look.family.may_be_of(kind_of(look, thing), name):
        look.refuse("kind", part)


def kind_of_size(look, expression, at):
    part = look.begun
    kind = kind_of(look, expression[1])
    if kind != "text" and kind != NIL and entry_of(kind) is None:
        look.refuse("kind", part)
    return "int"


def kind_of_sign(look, expression, at):
    look_for_fit(look, expression[1], "text")
    look_for_fit(look, expression[2], "int")
    return "int"


def kind_of_tell(look, expression, at):
    look_for_fit(look, expression[1], "int")
    return "text"


STATEMENT_RULES = {
    "var": look_at_var,
    "set": look_at_set,
    "put": look_at_put,
    "place": look_at_place,
    "if": look_at_if,
    "while": look_at_while,
    "return": look_at_return,
    "throw": look_at_throw,
    "try": look_at_try,
    "show": look_at_show,
    "do": look_at_do,
}

EXPRESSION_RULES = {
    "name": kind_of_name,
    "get": kind_of_get,
    "at": kind_of_at,
    "call": kind_of_call,
    "ask": kind_of_ask,
    "new": kind_of_new,
    "row": kind_of_row,
    "op": kind_of_op,
    "not": kind_of_not,
    "is": kind_of_is,
    "as": kind_of_as,
    "size": kind_of_size,
    "sign": kind_of_sign,
    "tell": kind_of_tell,
}
