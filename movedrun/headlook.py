"""The look at a module's classes, at the heads of its functions, and at all classes that are named."""

from movedrun.errors import NotVerified
from movedrun.known import slot_kinds, takes_object

# Instructions that name a class right behind their word.
NAMING = ("ask", "new", "get", "put", "is", "as")


def look_at_heads(known):
    """Raises NotVerified for the first thing that is wrong."""
    look_for_classes(known)
    look_for_fields(known)
    look_for_methods(known)
    look_for_main(known)


def refuse(word, index, place):
    raise NotVerified((word, index, place))


def look_for_classes(known):
    ahead = []
    for name, above, fields, _ in known.classes:
        if name in ahead or not (above is None or above in ahead):
            refuse("class", None, None)
        if not are_known(known, [kind for _, kind in fields]):
            refuse("class", None, None)
        ahead.append(name)
    for index, function in enumerate(known.functions):
        look_for_named(known, index, function)


def are_known(known, kinds):
    """Whether all classes that these kinds name are there; None is no kind and names none."""
    return all([known.family.knows(kind) for kind in kinds])


def look_for_named(known, index, function):
    """The classes that a function's head names, then those that its code and catches name."""
    if not are_known(known, [function[2], *slot_kinds(function)]):
        refuse("class", index, None)
    wrong = [place for place, instruction in enumerate(function[4]) if not names_known(known, instruction)]
    for begin, _, _, name in function[5]:
        if not known.family.has(name):
            wrong.append(begin)
    if wrong:
        refuse("class", index, min(wrong))


def names_known(known, instruction):
    """Whether the class that an instruction names is there, if it names one."""
    if instruction[0] == "row":
        return known.family.knows(instruction[1])
    return instruction[0] not in NAMING or known.family.has(instruction[1])


def look_for_fields(known):
    """Fields are told apart in a whole line of classes, methods in their own class alone."""
    for name, _, _, methods in known.classes:
        fields = [field for each in known.family.line(name) for field, _ in each[2]]
        if has_twice(fields) or has_twice([method for method, _ in methods]):
            refuse("field", None, None)


def has_twice(names):
    return len(set(names)) < len(names)


def look_for_methods(known):
    for name, above, _, methods in known.classes:
        for method, index in methods:
            if not known.has_function(index) or not takes_object(known.functions[index], name):
                refuse("method", None, None)
            other = known.method(above, method)
            if other is not None and further_kinds(other) != further_kinds(known.functions[index]):
                refuse("method", None, None)


def further_kinds(function):
    """The kinds of the params behind the object, and of the result."""
    return (function[1][1:], function[2])


def look_for_main(known):
    if known.has_function(known.main):
        function = known.functions[known.main]
        if function[1] == () and function[2] is None:
            return
    refuse("main", None, None)
