"""Programs as modules, and where in their code each statement and expression begins."""

from movedrun.checks import checked
from movedrun.coding import Coding
from movedrun.errors import BadPlace
from movedrun.forms import is_between, is_tuple_of
from movedrun.layout import Layout, handed_in, told_name


def compiled(program):
    """The module of a checked program."""
    checked(program)
    layout = Layout(program)
    functions = [compiled_function(layout, owner, function) for owner, function in layout.bodies]
    classes = [compiled_class(layout, each) for each in layout.classes]
    return (tuple(classes), tuple(functions), layout.index_of(None, "main"))


def compiled_class(layout, each):
    name, above, fields, methods = each
    return (name, above, fields, tuple([(method[0], layout.index_of(name, method[0])) for method in methods]))


def compiled_function(layout, owner, function):
    coding = Coding(layout, owner, function)
    many = len(handed_in(owner, function))
    return (
        told_name(owner, function[0]), tuple(coding.kinds[:many]), function[2], tuple(coding.kinds[many:]),
        tuple(coding.code), tuple(coding.catches)
    )


def code_place(program, where):
    """(function's index, place) of the beginning of a statement or expression."""
    checked(program)
    layout = Layout(program)
    if is_tuple_of(where, 3):
        for index, (owner, function) in enumerate(layout.bodies):
            if where[0] == owner and where[1] == function[0]:
                places = Coding(layout, owner, function).places
                if is_between(where[2], 0, len(places) - 1):
                    return (index, places[where[2]])
    raise BadPlace("this is no place in a body of the program")
