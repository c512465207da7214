"""Where in a module the classes and functions of a program stand."""

from movedrun.family import Family


class Layout:
    """bodies is the tuple of (class's name or None, function), by the index of the function in the module."""

    def __init__(self, program):
        classes, functions = program
        self.family = Family(classes)
        self.classes = each_behind_above(classes)
        methods = [(each[0], method) for each in self.classes for method in each[3]]
        self.bodies = tuple([(None, function) for function in functions] + methods)
        self.indexes = {(owner, function[0]): index for index, (owner, function) in enumerate(self.bodies)}

    def index_of(self, owner, name):
        return self.indexes[owner, name]

    def called(self, name):
        """The function that a call means."""
        return self.bodies[self.index_of(None, name)][1]


def each_behind_above(classes):
    """The classes, each behind the one above it; of those that may stand next always the first."""
    placed = {}
    while len(placed) < len(classes):
        each = [other for other in classes if other[0] not in placed and (other[1] is None or other[1] in placed)][0]
        placed[each[0]] = each
    return tuple(placed.values())


def told_name(owner, name):
    """The name of a function in the module, and as faults tell it."""
    return name if owner is None else owner + "." + name


def handed_in(owner, function):
    """The params as (name, kind), of a method with the object ahead."""
    if owner is None:
        return function[1]
    return (("self", ("of", owner)), *function[1])
