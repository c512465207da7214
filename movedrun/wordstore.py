"""The store of the machine: objects, rows and texts lie in the words of a heap, and are moved."""

from movedrun.family import is_reference
from movedrun.forms import TEXT_SIGNS
from movedrun.heapforms import HEAD_WORDS, LINK_ROW, PLAIN_ROW, SIGNS
from movedrun.values import MOST_ENTRIES, MOST_SIGNS, Fault


class WordStore:
    """A thing is an address; nil is None. Whoever keeps the frames is asked for their roots as something is made."""

    def __init__(self, known, heap, roots):
        self.heap = heap
        self.memory = heap.memory
        self.roots = roots
        self.names = known.names()
        self.numbers = {name: number for number, name in enumerate(self.names)}
        self.sizes = [len(known.fields(name)) for name in self.names]
        self.signs_by_code = {ord(sign): sign for sign in TEXT_SIGNS}

    def make(self, kind, slots, taken):
        """(address, taken): a new object, and where the things lie now that the instruction has taken."""
        if self.heap.has_room(slots):
            return (self.memory.make(kind, slots), taken)
        held = self.roots.told()
        address, roots = self.heap.make(kind, slots, held + taken)
        self.roots.lay_back(roots)
        return (address, roots[len(held):])

    def new_text(self, codes):
        address, _ = self.make(SIGNS, len(codes), ())
        self.lay(address, codes)
        return address

    def lay(self, address, words):
        """Lays plain words into all slots of an object."""
        first = address + HEAD_WORDS
        self.memory.words[first:first + len(words)] = words

    def body(self, thing):
        first = thing + HEAD_WORDS
        return self.memory.words[first:first + self.memory.slots(thing)]

    def text(self, signs):
        return self.new_text([ord(sign) for sign in signs])

    def joined(self, first, second):
        many = self.size(first) + self.size(second)
        if many > MOST_SIGNS:
            raise Fault("size")
        address, taken = self.make(SIGNS, many, (first, second))
        self.lay(address, self.body(taken[0]) + self.body(taken[1]))
        return address

    def new(self, name):
        number = self.numbers[name]
        return self.make(number, self.sizes[number], ())[0]

    def row(self, kind, number):
        if not 0 <= number <= MOST_ENTRIES:
            raise Fault("size")
        return self.make(LINK_ROW if is_reference(kind) else PLAIN_ROW, number, ())[0]

    def field(self, thing, field):
        if thing is None:
            raise Fault("nil")
        slot, kind = field
        return value_of(self.memory.words[thing + HEAD_WORDS + slot], kind)

    def set_field(self, thing, field, value):
        if thing is None:
            raise Fault("nil")
        slot, kind = field
        self.set_slot(thing, slot, kind, value)

    def set_slot(self, thing, slot, kind, value):
        place = thing + HEAD_WORDS + slot
        if is_reference(kind):
            self.memory.set_link(thing, place, 0 if value is None else value)
        else:
            self.memory.words[place] = int(value)

    def slot_of(self, thing, index):
        """The index of an entry or a sign that is there."""
        if thing is None:
            raise Fault("nil")
        if not 0 <= index < self.memory.slots(thing):
            raise Fault("index")
        return index

    def entry(self, row, index, kind):
        slot = self.slot_of(row, index)
        return value_of(self.memory.words[row + HEAD_WORDS + slot], kind)

    def set_entry(self, row, index, kind, value):
        self.set_slot(row, self.slot_of(row, index), kind, value)

    def size(self, thing):
        if thing is None:
            raise Fault("nil")
        return self.memory.slots(thing)

    def sign(self, text, index):
        slot = self.slot_of(text, index)
        return self.memory.words[text + HEAD_WORDS + slot]

    def signs(self, text):
        if text is None:
            raise Fault("nil")
        return "".join([self.signs_by_code[code] for code in self.body(text)])

    def class_of(self, thing):
        return self.names[self.memory.kind(thing)]

    def held(self, thing, kinds):
        """What stands in an object or a row, by these kinds."""
        return [value_of(word, kind) for word, kind in zip(self.body(thing), kinds)]


def value_of(word, kind):
    """The value that a word of this kind is."""
    if kind == "int":
        return word
    if kind == "truth":
        return word == 1
    return None if word == 0 else word


def shapes_of(known):
    """The shapes of a module's classes: which fields may hold things."""
    return tuple([tuple([is_reference(kind) for _, kind in known.fields(name)]) for name in known.names()])
