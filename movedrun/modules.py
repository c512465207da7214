"""Modules: their form, and their texts."""

from movedrun.errors import BadModule, BadRows
from movedrun.forms import is_tuple_of, is_tuple_to
from movedrun.instructions import MOST_MODULE_FUNCTIONS, are_all, is_index, is_module_class, is_module_function
from movedrun.programs import MOST_CLASSES
from movedrun.rowreading import Rows, read_rows
from movedrun.rowwriting import module_rows


def is_module(thing):
    """Whether a thing is a module by its form alone."""
    if not is_tuple_of(thing, 3):
        return False
    classes, functions, main = thing
    if not is_tuple_to(classes, MOST_CLASSES) or not is_tuple_to(functions, MOST_MODULE_FUNCTIONS):
        return False
    return are_all(is_module_class, classes) and are_all(is_module_function, functions) and is_index(main)


def write_module(module):
    """The text of a module: its rows, with one line feed between."""
    if not is_module(module):
        raise BadModule("this is no module")
    return "\n".join(module_rows(module))


def read_module(text):
    """The module of which this is the text; BadRows(row, word) if it is none."""
    if not isinstance(text, str):
        raise BadRows(0, 0)
    return read_rows(Rows(text))
