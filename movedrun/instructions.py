"""The forms of a module's parts, and what each instruction bears behind its word."""

from movedrun.bodyforms import is_leaf
from movedrun.forms import MOST_ROWS, is_between, is_kind, is_name, is_tuple_of, is_tuple_to
from movedrun.programs import MOST_FIELDS, MOST_METHODS, are_named_kinds

MOST_MODULE_FUNCTIONS = 60
# Params and locals of one function together.
MOST_SLOTS = 20
MOST_CODE = 4000
MOST_CATCHES = 10
MOST_INDEX = 9999

# The sorts: index (of a local, a function or a place), name, entry (the kind of a row's entries), int, truth, text.
INSTRUCTIONS = {
    "int": ("int",),
    "truth": ("truth",),
    "text": ("text",),
    "nil": (),
    "load": ("index",),
    "store": ("index",),
    "drop": (),
    "twin": (),
    "add": (),
    "sub": (),
    "mul": (),
    "div": (),
    "rem": (),
    "less": (),
    "same": (),
    "not": (),
    "jump": ("index",),
    "if": ("index",),
    "call": ("index",),
    "ask": ("name", "name"),
    "done": (),
    "new": ("name",),
    "get": ("name", "name"),
    "put": ("name", "name"),
    "row": ("entry",),
    "at": (),
    "set": (),
    "size": (),
    "sign": (),
    "tell": (),
    "is": ("name",),
    "as": ("name",),
    "throw": (),
    "show": (),
    "read": (),
}


def are_all(is_right, things):
    for thing in things:
        if not is_right(thing):
            return False
    return True


def is_index(thing):
    return is_between(thing, 0, MOST_INDEX)


def is_module_class(thing):
    if not is_tuple_of(thing, 4):
        return False
    name, above, fields, methods = thing
    if not is_name(name) or not (above is None or is_name(above)):
        return False
    return are_named_kinds(fields, MOST_FIELDS) and is_tuple_to(methods, MOST_METHODS) and are_all(is_method, methods)


def is_method(thing):
    return is_tuple_of(thing, 2) and is_name(thing[0]) and is_index(thing[1])


def is_function_name(thing):
    """Whether a thing is a name, or a class's name and a method's with a . between."""
    if not isinstance(thing, str):
        return False
    parts = thing.split(".")
    return len(parts) <= 2 and are_all(is_name, parts)


def is_module_function(thing):
    if not is_tuple_of(thing, 6):
        return False
    name, params, result, own, code, catches = thing
    if not is_function_name(name) or not (result is None or is_any_kind(result)):
        return False
    if not is_tuple_to(params, MOST_SLOTS) or not is_tuple_to(own, MOST_SLOTS - len(params)):
        return False
    if not are_all(is_any_kind, params) or not are_all(is_any_kind, own):
        return False
    if not is_tuple_to(code, MOST_CODE) or code == () or not are_all(is_instruction, code):
        return False
    return is_tuple_to(catches, MOST_CATCHES) and are_all(is_catch, catches)


def is_any_kind(thing):
    return is_kind(thing, MOST_ROWS)


def is_instruction(thing):
    if not isinstance(thing, tuple) or thing == () or not isinstance(thing[0], str):
        return False
    sorts = INSTRUCTIONS.get(thing[0])
    if sorts is None or len(thing) != len(sorts) + 1:
        return False
    for sort, part in zip(sorts, thing[1:]):
        if not is_borne(sort, part):
            return False
    return True


def is_borne(sort, part):
    return is_index(part) if sort == "index" else is_leaf(sort, part)


def is_catch(thing):
    return is_tuple_of(thing, 4) and are_all(is_index, thing[:3]) and is_name(thing[3])
