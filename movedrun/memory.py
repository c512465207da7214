"""The words of a heap, and where its objects lie.

Addresses are indexes of one list of words: the nursery from 1 on, the two halves, then the old room, which grows.
"""

from movedrun.heapforms import (
    BLACK, HEAD_WORDS, LINK_ROW, WHITE, age_told, colour_told, head_word, kind_told, shape_links
)


class Memory:
    """Young and old objects are kept by their addresses, the old ones ascending; grey is the grey row from done on."""

    def __init__(self, shapes, sizes):
        self.shapes = shapes
        self.sizes = sizes
        nursery, half, great, age = sizes
        self.great = great
        self.age = age
        # The first addresses of the nursery, of the halves, and of the old room.
        self.firsts = (1, nursery + 1, nursery + half + 1)
        self.first_old = nursery + 2 * half + 1
        self.shapes_links = [shape_links(shape) for shape in shapes]
        self.words = [0] * self.first_old
        # The next free addresses of the nursery and of the halves.
        self.nexts = list(self.firsts)
        self.half = 0
        self.young = {}
        self.old = {}
        self.remembered = {}
        self.grey = []
        self.done = 0
        self.marks = False
        # How many minor, settling and whole collections have ended, but for those within others.
        self.ended = [0, 0, 0]

    def is_object(self, address):
        return address in self.old or address in self.young

    def is_young(self, reference):
        return 0 < reference < self.first_old

    def kind(self, address):
        return kind_told(self.words[address])

    def slots(self, address):
        return self.words[address + 1]

    def age_of(self, address):
        return age_told(self.words[address])

    def size(self, address):
        """All words of an object, its head among them."""
        return HEAD_WORDS + self.words[address + 1]

    def link_places(self, address):
        """The addresses of an object's reference slots, in their sequence."""
        first = address + HEAD_WORDS
        kind = self.kind(address)
        if kind >= 0:
            return [first + index for index in self.shapes_links[kind]]
        return list(range(first, first + self.slots(address))) if kind == LINK_ROW else []

    def is_great(self, slots):
        return HEAD_WORDS + slots > self.great

    def fits(self, room, many):
        """Whether so many words fit in the nursery or a half: rooms 0, 1 and 2."""
        end = self.firsts[room + 1] if room < 2 else self.first_old
        return self.nexts[room] + many <= end

    def lay_young(self, room, words):
        """Lays an object's words at the end of the nursery or a half; returns its address."""
        address = self.nexts[room]
        self.words[address:address + len(words)] = words
        self.nexts[room] = address + len(words)
        self.young[address] = True
        return address

    def lay_old(self, words):
        address = len(self.words)
        self.words.extend(words)
        self.old[address] = True
        return address

    def make(self, kind, slots):
        """Lays a new object where it belongs; there must be room for it."""
        colour = BLACK if self.marks and self.is_great(slots) else WHITE
        words = [head_word(kind, 0, colour), slots] + [0] * slots
        return self.lay_old(words) if self.is_great(slots) else self.lay_young(0, words)

    def set_link(self, address, place, reference):
        """Lays a reference into a slot of an object: what is remembered, and what is grey, go along."""
        self.words[place] = reference
        if address < self.first_old:
            return
        if self.is_young(reference):
            self.remembered[place] = True
            return
        if place in self.remembered:
            del self.remembered[place]
        if self.marks:
            self.shade(reference)

    def is_white(self, reference):
        """Whether a reference is of a white object of the old room."""
        return reference >= self.first_old and colour_told(self.words[reference]) == WHITE

    def shade(self, reference):
        """A white object of the old room becomes grey."""
        if self.is_white(reference):
            # Grey is one more than white.
            self.words[reference] += 1
            self.grey.append(reference)

    def grey_row(self):
        return self.grey[self.done:]

    def room(self, room):
        """The words that lie in the nursery or a half."""
        return self.words[self.firsts[room]:self.nexts[room]]

    def old_room(self):
        return self.words[self.first_old:]


def copy_of_memory(memory):
    """An equal memory that goes its own way."""
    other = Memory(memory.shapes, memory.sizes)
    other.words = list(memory.words)
    other.nexts = list(memory.nexts)
    other.half = memory.half
    other.young = {address: True for address in memory.young}
    other.old = {address: True for address in memory.old}
    other.remembered = {place: True for place in memory.remembered}
    other.grey = memory.grey_row()
    other.marks = memory.marks
    other.ended = list(memory.ended)
    return other
