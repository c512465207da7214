"""The store of plain runs: what is made is never moved, and never freed."""

from movedrun.values import (
    Thing, blank, entry_at, joined, new_row, set_entry, shown, sign_at, size_of, slots_of
)


class ThingStore:
    """Objects, rows and texts as Things, an object's slots in the sequence of its fields; made counts them."""

    def __init__(self, known):
        self.kinds = {name: [kind for _, kind in known.fields(name)] for name in known.names()}
        self.made = {}

    def counted(self, word, thing):
        self.made[word] = self.made.get(word, 0) + 1
        return thing

    def text(self, signs):
        return self.counted("text", Thing("text", signs))

    def joined(self, first, second):
        return self.counted("text", joined(first, second))

    def new(self, name):
        return self.counted(name, Thing(("of", name), [blank(kind) for kind in self.kinds[name]]))

    def row(self, kind, number):
        return self.counted("row", new_row(kind, number))

    def field(self, thing, field):
        return slots_of(thing)[field[0]]

    def set_field(self, thing, field, value):
        slots_of(thing)[field[0]] = value

    def entry(self, row, index, kind):
        return entry_at(row, index)

    def set_entry(self, row, index, kind, value):
        set_entry(row, index, value)

    def size(self, thing):
        return size_of(thing)

    def sign(self, text, index):
        return sign_at(text, index)

    def signs(self, text):
        return shown(text)

    def class_of(self, thing):
        return thing.kind[1]

    def held(self, thing, kinds):
        """What stands in an object or a row; the kinds matter where things lie as words."""
        return thing.slots
