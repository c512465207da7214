"""A module out of the rows of its text: each function goes past what it returns."""

from movedrun.errors import BadRows
from movedrun.forms import MOST_ENTRY_ROWS, MOST_ROWS, MOST_TEXT_SIGNS, PLAIN_KINDS, TEXT_SIGNS, is_name
from movedrun.instructions import (
    INSTRUCTIONS, MOST_CATCHES, MOST_CODE, MOST_MODULE_FUNCTIONS, MOST_SLOTS, is_function_name, is_index
)
from movedrun.programs import MOST_CLASSES, MOST_FIELDS, MOST_METHODS
from movedrun.words import is_number


class Rows:
    """A text at one of its words: the word of number at in the row of number row."""

    def __init__(self, text):
        self.rows = [row.split(" ") for row in text.split("\n")]
        self.row = 0
        self.at = 0
        self.signs = {str(ord(sign)): sign for sign in TEXT_SIGNS}

    def here(self):
        """The word here, None behind the last one of its row."""
        if self.row < len(self.rows) and self.at < len(self.rows[self.row]):
            return self.rows[self.row][self.at]
        return None

    def refuse(self):
        raise BadRows(self.row, self.at)

    def take(self):
        """Goes past the word here, which fits."""
        word = self.here()
        self.at += 1
        return word

    def end_row(self):
        if self.here() is not None:
            self.refuse()
        self.row += 1
        self.at = 0


def read_rows(rows):
    """The module that all the rows tell.

    Where no further row of a sort may stand, the next one is looked at by what may stand behind: so one
    that is beyond a bound does not fit either.
    """
    main = read_main(rows)
    classes = read_many(rows, "class", read_class, MOST_CLASSES)
    functions = read_many(rows, "function", read_function, MOST_MODULE_FUNCTIONS)
    if rows.here() is not None:
        rows.refuse()
    return (classes, functions, main)


def read_many(rows, word, read_one, most):
    """What follows of rows that begin with this word, at most so many."""
    found = []
    while len(found) < most and rows.here() == word:
        rows.take()
        found.append(read_one(rows))
    return tuple(found)


def read_main(rows):
    if rows.here() != "main":
        rows.refuse()
    rows.take()
    main = read_index(rows)
    rows.end_row()
    return main


def read_class(rows):
    name = read_name(rows)
    above = None
    if rows.here() == "-":
        rows.take()
    else:
        above = read_name(rows)
    rows.end_row()
    fields = read_many(rows, "field", read_field, MOST_FIELDS)
    return (name, above, fields, read_many(rows, "method", read_method, MOST_METHODS))


def read_field(rows):
    name = read_name(rows)
    return (name, read_kind_row(rows))


def read_method(rows):
    name = read_name(rows)
    index = read_index(rows)
    rows.end_row()
    return (name, index)


def read_function(rows):
    if not is_function_name(rows.here()):
        rows.refuse()
    name = rows.take()
    result = None
    if rows.here() == "-":
        rows.take()
        rows.end_row()
    else:
        result = read_kind_row(rows)
    params = read_many(rows, "param", read_kind_row, MOST_SLOTS)
    own = read_many(rows, "local", read_kind_row, MOST_SLOTS - len(params))
    code = read_code(rows)
    return (name, params, result, own, code, read_many(rows, "catch", read_catch, MOST_CATCHES))


def read_code(rows):
    code = []
    while len(code) < MOST_CODE and rows.here() in INSTRUCTIONS:
        code.append(read_instruction(rows))
    if code == []:
        rows.refuse()
    return tuple(code)


def read_instruction(rows):
    word = rows.take()
    parts = [word]
    for sort in INSTRUCTIONS[word]:
        read_part = PART_RULES[sort]
        parts.append(read_part(rows))
    rows.end_row()
    return tuple(parts)


def read_catch(rows):
    begin = read_index(rows)
    end = read_index(rows)
    to = read_index(rows)
    name = read_name(rows)
    rows.end_row()
    return (begin, end, to, name)


def read_name(rows):
    if not is_name(rows.here()):
        rows.refuse()
    return rows.take()


def read_int(rows):
    word = rows.here()
    if word is None or not is_number(word):
        rows.refuse()
    return int(rows.take())


def read_index(rows):
    word = rows.here()
    if word is None or not is_number(word) or not is_index(int(word)):
        rows.refuse()
    return int(rows.take())


def read_truth(rows):
    if rows.here() not in ("true", "false"):
        rows.refuse()
    return rows.take() == "true"


def read_signs(rows):
    """A text, told by its signs' codes."""
    if rows.here() == "-":
        rows.take()
        return ""
    signs = signs_of_codes(rows.here(), rows.signs)
    if signs is None:
        rows.refuse()
    rows.take()
    return signs


def signs_of_codes(word, by_code):
    """None for what tells no text, or one that is too long."""
    if word is None:
        return None
    codes = word.split(",")
    if len(codes) > MOST_TEXT_SIGNS:
        return None
    for code in codes:
        if code not in by_code:
            return None
    return "".join([by_code[code] for code in codes])


def read_kind_row(rows):
    """A kind that ends its row."""
    kind = read_kind(rows, MOST_ROWS)
    rows.end_row()
    return kind


def read_entry(rows):
    return read_kind(rows, MOST_ENTRY_ROWS)


def read_kind(rows, many):
    """A kind with at most so many rows within one another."""
    word = rows.here()
    if word in PLAIN_KINDS:
        return rows.take()
    if word == "row" and many > 0:
        rows.take()
        return ("row", read_kind(rows, many - 1))
    if word != "of":
        rows.refuse()
    rows.take()
    return ("of", read_name(rows))


PART_RULES = {
    "index": read_index,
    "name": read_name,
    "entry": read_entry,
    "int": read_int,
    "truth": read_truth,
    "text": read_signs,
}
