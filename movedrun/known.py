"""What a module has, as those ask for it who look at its code or run it."""

from movedrun.family import Family


class Known:
    """A module's classes and functions, by names and by indexes.

    The verifier lays what it finds of each function it lets by into kinds and sets: tables by place.
    """

    def __init__(self, module):
        classes, functions, main = module
        self.classes = classes
        self.functions = functions
        self.main = main
        self.family = Family(classes)
        self.kinds = []
        self.sets = []

    def has_function(self, index):
        return index < len(self.functions)

    def method(self, name, method):
        """The function of a class's method, None if neither the class nor one above it has one of this name."""
        found = self.family.method(name, method)
        return None if found is None else self.functions[found[1]]

    def names(self):
        """The classes' names, in their sequence."""
        return [each[0] for each in self.classes]

    def below(self, name):
        """The classes at or below one, in their sequence."""
        return [each for each in self.names() if self.family.is_below(each, name)]

    def methods_below(self, name, method):
        """By each class at or below one: the index of the function that its method of this name is."""
        return {each: self.family.method(each, method)[1] for each in self.below(name)}

    def callees(self, instruction):
        """The indexes of the functions that a call or an ask can begin."""
        if instruction[0] == "call":
            return [instruction[1]]
        return list(self.methods_below(instruction[1], instruction[2]).values())

    def fields(self, name):
        """The fields of a class, those of the class above first."""
        return [field for each in self.family.line(name)[::-1] for field in each[2]]

    def meant(self, instruction):
        """The function that a call or an ask means: for an ask that of the class that it names."""
        if instruction[0] == "call":
            return self.functions[instruction[1]]
        return self.method(instruction[1], instruction[2])


def slot_kinds(function):
    """The kinds of a function's params and locals."""
    return function[1] + function[3]


def takes_object(function, name):
    """Whether a function's first param is of this very class."""
    params = function[1]
    return len(params) > 0 and params[0] == ("of", name)


def places_behind(code, place):
    """The places that may be next, what is thrown left out."""
    instruction = code[place]
    word = instruction[0]
    if word == "jump":
        return (instruction[1],)
    if word == "if":
        return (place + 1, instruction[1])
    if word == "done" or word == "throw":
        return ()
    return (place + 1,)
