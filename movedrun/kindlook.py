"""The look at the kinds of the values on the stack at each place of a function."""

from movedrun.effects import MIXED, are_let, put, taken
from movedrun.family import NIL, class_of, is_reference
from movedrun.spreads import Spread


class Kinds(Spread):
    """Tells of a place the tuple of the kinds on the stack, from below."""

    def __init__(self, known, index):
        super().__init__(known, index, ())

    def behind(self, place, told):
        instruction = self.code[place]
        kinds = put(self.known, self.function, instruction, told)
        if kinds is None:
            return None
        left = len(told) - len(taken(self.known, self.function, instruction))
        return told[:left] + kinds

    def caught(self, catch, told):
        return (("of", catch[3]),)

    def meet(self, one, other):
        return tuple([met_kind(self.known.family, kind, also) for kind, also in zip(one, other)])

    def look(self):
        """Raises NotVerified for the least place at which something is wrong."""
        for place in self.come_to():
            if not are_let(self.known, self.function, self.code[place], self.told[place]):
                self.refuse("kind", place)

    def table(self):
        return tuple(self.told)


def met_kind(family, kind, other):
    """The kind of a value that is of one kind or of another one, by the way that is taken."""
    if kind == other:
        return kind
    if kind == NIL and is_reference(other):
        return other
    if other == NIL and is_reference(kind):
        return kind
    # Only two classes have a line, and from the first one's class up the least one at or above both.
    for each in family.line(class_of(kind)):
        if family.is_below(class_of(other), each[0]):
            return ("of", each[0])
    return MIXED
