"""The form of a body: its statements and expressions, and the bounds on how much one may hold."""

from movedrun.forms import (
    GREATEST_INT, LEAST_INT, MOST_ENTRY_ROWS, MOST_ROWS, is_between, is_kind, is_name, is_short_text
)
from movedrun.parts import EXPRESSIONS, SIGNS, STATEMENTS

MOST_IN_BODY = 400
MOST_IN_CHAIN = 20
MOST_NAMES_TOLD = 16
MOST_TRIES = 10


def is_body(thing, params):
    """Whether a thing is a body of a function that has so many params."""
    look = BodyForm(params)
    return look.is_block(thing, 1) and look.names <= MOST_NAMES_TOLD and look.tries <= MOST_TRIES


def is_leaf(sort, thing):
    """Whether a part that holds no statement and no expression is of its sort."""
    if sort == "name":
        return is_name(thing)
    if sort == "known":
        return is_name(thing) or thing == "self"
    if sort == "kind":
        return is_kind(thing, MOST_ROWS)
    if sort == "entry":
        return is_kind(thing, MOST_ENTRY_ROWS)
    if sort == "sign":
        return isinstance(thing, str) and thing in SIGNS
    if sort == "int":
        return is_between(thing, LEAST_INT, GREATEST_INT)
    if sort == "truth":
        return isinstance(thing, bool)
    return is_short_text(thing)


class BodyForm:
    """Counts while it looks; a body is left as soon as it is too great.

    So a thing in which one part stands in very many places is soon done with.
    """

    def __init__(self, params):
        self.names = params
        self.tries = 0
        self.begun = 0

    def is_block(self, thing, depth):
        if not isinstance(thing, tuple):
            return False
        for statement in thing:
            if not self.is_statement(statement, depth):
                return False
        return True

    def is_statement(self, thing, depth):
        if not self.may_begin(thing, depth):
            return False
        sorts = STATEMENTS.get(thing[0])
        if sorts is None:
            return False
        if thing[0] == "var" or thing[0] == "try":
            self.names += 1
        if thing[0] == "try":
            self.tries += 1
        return self.are_parts(sorts, thing, depth)

    def is_expression(self, thing, depth):
        if not self.may_begin(thing, depth):
            return False
        sorts = EXPRESSIONS.get(thing[0])
        return sorts is not None and self.are_parts(sorts, thing, depth)

    def may_begin(self, thing, depth):
        """Counts one more; it needs a word, and room for it."""
        self.begun += 1
        if self.begun > MOST_IN_BODY or depth > MOST_IN_CHAIN:
            return False
        return isinstance(thing, tuple) and len(thing) > 0 and isinstance(thing[0], str)

    def are_parts(self, sorts, thing, depth):
        if len(thing) != len(sorts) + 1:
            return False
        for at, sort in enumerate(sorts):
            if not self.is_part(sort, thing[at + 1], depth + 1):
                return False
        return True

    def is_part(self, sort, thing, depth):
        if sort == "expression":
            return self.is_expression(thing, depth)
        if sort == "block":
            return self.is_block(thing, depth)
        if sort == "args":
            return self.are_args(thing, depth)
        if sort == "value":
            return thing is None or self.is_expression(thing, depth)
        return is_leaf(sort, thing)

    def are_args(self, thing, depth):
        if not isinstance(thing, tuple):
            return False
        for part in thing:
            if not self.is_expression(part, depth):
                return False
        return True
