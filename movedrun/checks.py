"""Checked programs: what is wrong first, if anything is."""

from movedrun.bodies import look_at_body
from movedrun.errors import BadForm, NotLetBy
from movedrun.family import Family
from movedrun.programs import is_program


def check(program):
    """None, or the first thing wrong as (word, where)."""
    try:
        checked(program)
    except NotLetBy as wrong:
        return wrong.what
    return None


def checked(program):
    """Raises NotLetBy for a program that is not right."""
    if not is_program(program):
        raise BadForm("this is no program")
    classes, functions = program
    family = Family(classes)
    look_at_classes(classes, family)
    for each in classes:
        look_at_methods(each, family)
    look_at_functions(functions, family)
    look_for_main(functions)
    by_name = {function[0]: function for function in functions}
    for name, _, _, methods in classes:
        for method in methods:
            look_at_body(family, by_name, name, method)
    for function in functions:
        look_at_body(family, by_name, None, function)


def look_at_classes(classes, family):
    ahead = []
    for name, above, fields, _ in classes:
        if name in ahead:
            raise NotLetBy(("double", (name, None, None)))
        ahead.append(name)
        if above is not None and (not family.has(above) or family.is_below(above, name)):
            raise NotLetBy(("class", (name, None, None)))
        look_at_fields(name, above, fields, family)


def look_at_fields(name, above, fields, family):
    ahead = []
    for field, kind in fields:
        if field in ahead or family.field_kind(above, field) is not None:
            raise NotLetBy(("double", (name, None, None)))
        if not family.knows(kind):
            raise NotLetBy(("class", (name, None, None)))
        ahead.append(field)


def look_at_methods(each, family):
    name, above, _, methods = each
    ahead = []
    for method in methods:
        look_at_head(family, name, ahead, method)
        look_at_override(family, name, above, method)
        ahead.append(method[0])


def look_at_functions(functions, family):
    ahead = []
    for function in functions:
        look_at_head(family, None, ahead, function)
        ahead.append(function[0])


def look_at_head(family, owner, ahead, function):
    name, params, result, _ = function
    where = (owner, name, None)
    if name in ahead:
        raise NotLetBy(("double", where))
    told = []
    for param, kind in params:
        if param in told:
            raise NotLetBy(("double", where))
        if not family.knows(kind):
            raise NotLetBy(("class", where))
        told.append(param)
    if not family.knows(result):
        raise NotLetBy(("class", where))


def look_at_override(family, owner, above, method):
    head = head_kinds(method)
    for each in family.line(above):
        for other in each[3]:
            if other[0] == method[0] and head_kinds(other) != head:
                raise NotLetBy(("override", (owner, method[0], None)))


def head_kinds(function):
    """The kinds of the params, and of the result."""
    return ([kind for _, kind in function[1]], function[2])


def look_for_main(functions):
    for name, params, result, _ in functions:
        if name == "main" and params == () and result is None:
            return
    raise NotLetBy(("main", (None, None, None)))
