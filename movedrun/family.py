"""Kinds, and classes by their names: who is above whom, what each one has, and which kinds fit."""

# The kind of nil itself, which no program can write.
NIL = "nil"


def class_of(kind):
    """The class's name of a kind of objects, None of any other kind."""
    if isinstance(kind, tuple) and kind[0] == "of":
        return kind[1]
    return None


def entry_of(kind):
    """The kind of the entries of a kind of rows, None of any other kind."""
    if isinstance(kind, tuple) and kind[0] == "row":
        return kind[1]
    return None


def is_reference(kind):
    return kind == "text" or kind == NIL or isinstance(kind, tuple)


class Family:
    """The classes, of two of one name the first; a class that there is not may be named."""

    def __init__(self, classes):
        self.by_name = {}
        for each in classes:
            self.by_name.setdefault(each[0], each)

    def has(self, name):
        return name in self.by_name

    def knows(self, kind):
        """Whether the class that a kind names is there, if it names one."""
        entry = entry_of(kind)
        if entry is not None:
            return self.knows(entry)
        name = class_of(kind)
        return name is None or self.has(name)

    def line(self, name):
        """The classes from this one up, each once: classes that are above themselves go round."""
        found = {}
        while name in self.by_name and name not in found:
            found[name] = self.by_name[name]
            name = found[name][1]
        return list(found.values())

    def is_below(self, name, other):
        """Whether the first class is the other one or below it."""
        return other in [each[0] for each in self.line(name)]

    def field_kind(self, name, field):
        """The kind of a field that a class or one above it has, None if there is none."""
        for each in self.line(name):
            for own, kind in each[2]:
                if own == field:
                    return kind
        return None

    def method(self, name, method):
        """The method that a class has, its own one ahead of those above it, None if there is none."""
        for each in self.line(name):
            for own in each[3]:
                if own[0] == method:
                    return own
        return None

    def fits(self, kind, other):
        """Whether a kind fits another one; no kind at all fits none."""
        if kind == other:
            return True
        if kind == NIL:
            return is_reference(other)
        return self.is_kind_below(kind, other)

    def is_kind_below(self, kind, other):
        """Whether both kinds are of classes, the first class being the other one or below it."""
        name = class_of(kind)
        above = class_of(other)
        return name is not None and above is not None and self.is_below(name, above)

    def may_be_same(self, kind, other):
        """Whether values of these two kinds may be compared."""
        return self.fits(kind, other) or self.fits(other, kind)

    def may_be_of(self, kind, name):
        """Whether a value of this kind may be asked if it is of the class: nil, or one of its line."""
        asked = ("of", name)
        return kind == NIL or self.is_kind_below(kind, asked) or self.is_kind_below(asked, kind)
