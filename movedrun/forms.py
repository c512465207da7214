"""Integers, names, kinds and texts: the forms that more than one part of the package looks at."""

LEAST_INT = -2147483648
GREATEST_INT = 2147483647

LETTERS = "abcdefghijklmnopqrstuvwxyzABCDEFGHIJKLMNOPQRSTUVWXYZ"
DIGITS = "0123456789"
# All signs that a text may have.
TEXT_SIGNS = (
    " !#$&'()*+,-./0123456789:;<=>?@ABCDEFGHIJKLMNOPQRSTUVWXYZ[\\]^_`abcdefghijklmnopqrstuvwxyz{|}~"
)

MOST_NAME_SIGNS = 8
MOST_TEXT_SIGNS = 40
MOST_ROWS = 3
# A row expression's own row comes around the kind of its entries.
MOST_ENTRY_ROWS = 2

WORDS = (
    "above", "and", "as", "catch", "class", "def", "else", "false", "if", "int", "is", "new", "nil", "not", "or",
    "read", "rem", "return", "row", "self", "show", "sign", "size", "tell", "text", "throw", "true", "truth", "try",
    "var", "while",
)

PLAIN_KINDS = ("int", "truth", "text")


def is_integer(thing):
    """True and False are no integers."""
    return isinstance(thing, int) and not isinstance(thing, bool)


def is_between(thing, least, greatest):
    return is_integer(thing) and least <= thing <= greatest


def is_tuple_to(thing, most):
    """Whether a thing is a tuple of at most so many entries."""
    return isinstance(thing, tuple) and len(thing) <= most


def is_tuple_of(thing, many):
    """Whether a thing is a tuple of just so many entries."""
    return isinstance(thing, tuple) and len(thing) == many


def is_name(thing):
    if not isinstance(thing, str) or not 1 <= len(thing) <= MOST_NAME_SIGNS:
        return False
    if thing[0] not in LETTERS or thing in WORDS:
        return False
    for sign in thing:
        if sign not in LETTERS and sign not in DIGITS:
            return False
    return True


def is_kind(thing, rows):
    """Whether a thing is a kind with at most so many rows within one another."""
    if isinstance(thing, str):
        return thing in PLAIN_KINDS
    if not is_tuple_of(thing, 2):
        return False
    if thing[0] == "row":
        return rows > 0 and is_kind(thing[1], rows - 1)
    return thing[0] == "of" and is_name(thing[1])


def is_signs(thing):
    """Whether a thing is a text, of any length, of signs that may stand between two quotes."""
    if not isinstance(thing, str):
        return False
    for sign in thing:
        code = ord(sign)
        # 34 is the quote, 37 the percent sign.
        if code < 32 or code > 126 or code == 34 or code == 37:
            return False
    return True


def is_short_text(thing):
    return isinstance(thing, str) and len(thing) <= MOST_TEXT_SIGNS and is_signs(thing)
