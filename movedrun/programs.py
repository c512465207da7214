"""Programs: their form, and their texts."""

from movedrun.bodyforms import is_body
from movedrun.errors import BadForm, BadText
from movedrun.forms import MOST_ROWS, is_kind, is_name, is_tuple_of, is_tuple_to
from movedrun.reading import read_words
from movedrun.words import Words
from movedrun.writing import program_words

MOST_CLASSES = 12
# Functions and methods of all classes together.
MOST_FUNCTIONS = 30
MOST_FIELDS = 8
MOST_METHODS = 8
MOST_PARAMS = 6


def is_program(thing):
    """Whether a thing is a program by its form alone."""
    if not is_tuple_of(thing, 2):
        return False
    classes, functions = thing
    if not is_tuple_to(classes, MOST_CLASSES) or not is_tuple_to(functions, MOST_FUNCTIONS):
        return False
    many = len(functions)
    for each in classes:
        if not is_class(each):
            return False
        many += len(each[3])
    return many <= MOST_FUNCTIONS and are_functions(functions)


def is_class(thing):
    if not is_tuple_of(thing, 4):
        return False
    name, above, fields, methods = thing
    if not is_name(name) or not (above is None or is_name(above)):
        return False
    return are_named_kinds(fields, MOST_FIELDS) and is_tuple_to(methods, MOST_METHODS) and are_functions(methods)


def are_functions(things):
    for thing in things:
        if not is_function(thing):
            return False
    return True


def is_function(thing):
    if not is_tuple_of(thing, 4):
        return False
    name, params, result, body = thing
    if not is_name(name) or not are_named_kinds(params, MOST_PARAMS):
        return False
    return (result is None or is_kind(result, MOST_ROWS)) and is_body(body, len(params))


def are_named_kinds(thing, most):
    """Whether a thing is a tuple of fields or params, at most so many."""
    if not is_tuple_to(thing, most):
        return False
    for part in thing:
        if not is_tuple_of(part, 2) or not is_name(part[0]) or not is_kind(part[1], MOST_ROWS):
            return False
    return True


def write_program(program):
    """The text of a program, with single blanks between all words."""
    if not is_program(program):
        raise BadForm("this is no program")
    return " ".join(program_words(program))


def read_program(text):
    """The program of which this is a text; BadText(place) if it is none."""
    if not isinstance(text, str):
        raise BadText(0)
    program = read_words(Words(text))
    if not is_program(program):
        raise BadText(len(text))
    return program
