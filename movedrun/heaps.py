"""The heap: its objects lie in words, are moved, and are freed when they cannot be come to."""

from movedrun.errors import BadAddress, BadCount, BadPicture, BadSlot, BadValue, Marking
from movedrun.forms import GREATEST_INT, LEAST_INT, is_between, is_integer
from movedrun.heapforms import (
    HEAD_WORDS, MOST_SLICE, is_link, look_at_kind, look_at_roots, look_at_shapes, look_at_size, look_at_sizes
)
from movedrun.judges import is_sound
from movedrun.marking import begin_marking, blacken_all, blacken_first, end_marking, is_grey_left
from movedrun.memory import Memory, copy_of_memory
from movedrun.moving import move_young
from movedrun.tracing import Tracing


class Heap:
    """A heap of objects of these shapes, with rooms of these sizes."""

    def __init__(self, shapes, sizes):
        look_at_shapes(shapes)
        look_at_sizes(sizes)
        self.memory = Memory(shapes, sizes)

    def make(self, kind, slots, roots):
        """(address, roots): a new object, all slots 0."""
        look_at_kind(self.memory.shapes, kind)
        look_at_size(self.memory.shapes, kind, slots)
        self.look_at(roots)
        if not self.has_room(slots):
            roots = self.moved_young(roots)
        return (self.memory.make(kind, slots), roots)

    def has_room(self, slots):
        """Whether an object of so many slots can be made without a minor collection."""
        return self.memory.is_great(slots) or self.memory.fits(0, HEAD_WORDS + slots)

    def moved_young(self, roots):
        self.memory.ended[0] += 1
        return move_young(self.memory, roots, False)

    def look_at(self, roots):
        look_at_roots(roots, self.memory)

    def look_at_address(self, address):
        if not is_integer(address) or not self.memory.is_object(address):
            raise BadAddress("this is no address of an object")

    def look_at_slot(self, address, slot):
        self.look_at_address(address)
        if not is_between(slot, 0, self.memory.slots(address) - 1):
            raise BadSlot("the object has no such slot")

    def kind(self, address):
        self.look_at_address(address)
        return self.memory.kind(address)

    def slots(self, address):
        """How many slots an object has."""
        self.look_at_address(address)
        return self.memory.slots(address)

    def get(self, address, slot):
        self.look_at_slot(address, slot)
        return self.memory.words[address + HEAD_WORDS + slot]

    def put(self, address, slot, value):
        self.look_at_slot(address, slot)
        place = address + HEAD_WORDS + slot
        if is_link(self.memory.shapes, self.memory.kind(address), slot):
            if not is_integer(value) or (value != 0 and not self.memory.is_object(value)):
                raise BadValue("a reference slot holds the address of an object, or 0")
            self.memory.set_link(address, place, value)
        else:
            if not is_between(value, LEAST_INT, GREATEST_INT):
                raise BadValue("a plain slot holds a word")
            self.memory.words[place] = value

    def where(self, address):
        """The sort of room in which an object lies: "nursery", "half" or "old"."""
        self.look_at_address(address)
        if not self.memory.is_young(address):
            return "old"
        return "nursery" if address < self.memory.firsts[1] else "half"

    def remembered(self):
        """The addresses of the slots of old objects that hold young ones, ascending."""
        return tuple(sorted(list(self.memory.remembered)))

    def graph(self, roots):
        """(numbers, things): what can be come to from the roots."""
        self.look_at(roots)
        return self.traced(roots).graph()

    def traced(self, roots):
        tracing = Tracing(self.memory.shapes, roots)
        while tracing.waits():
            address = tracing.first_untold()
            first = address + HEAD_WORDS
            tracing.tell(self.memory.kind(address), self.memory.words[first:first + self.memory.slots(address)])
        return tracing

    def unreached(self, roots):
        """How many objects cannot be come to from the roots."""
        self.look_at(roots)
        return len(self.memory.young) + len(self.memory.old) - self.traced(roots).many()

    def counts(self):
        """The words in the nursery, in the half in use and in the old room, and the objects in each."""
        memory = self.memory
        in_nursery = len([address for address in memory.young if address < memory.firsts[1]])
        return (
            len(memory.room(0)), len(memory.room(1 + memory.half)), len(memory.old_room()),
            in_nursery, len(memory.young) - in_nursery, len(memory.old)
        )

    def minor(self, roots):
        """The roots behind a minor collection."""
        self.look_at(roots)
        return self.moved_young(roots)

    def settle(self, roots):
        """The roots behind a minor collection that leaves nothing young."""
        self.look_at(roots)
        self.memory.ended[1] += 1
        return move_young(self.memory, roots, True)

    def begin(self, roots):
        """The roots behind the beginning of a whole collection."""
        self.look_at(roots)
        if self.memory.marks:
            raise Marking("the heap is marking")
        return begin_marking(self.memory, roots)

    def slice(self, count, roots):
        """The roots behind so many steps of a whole collection."""
        if not is_between(count, 0, MOST_SLICE):
            raise BadCount("this is no integer from 0 to 1,000,000")
        self.look_at(roots)
        if not self.memory.marks:
            roots = begin_marking(self.memory, roots)
        for _ in range(count):
            if not is_grey_left(self.memory):
                break
            blacken_first(self.memory)
        return roots if is_grey_left(self.memory) else end_marking(self.memory, roots)

    def whole(self, roots):
        """The roots behind the end of a whole collection, the one that is under way if there is one."""
        self.look_at(roots)
        if not self.memory.marks:
            roots = begin_marking(self.memory, roots)
        blacken_all(self.memory)
        return end_marking(self.memory, roots)

    def is_marking(self):
        return self.memory.marks

    def picture(self):
        """(nursery, half, words, old, remembered, grey, marking): the heap as a plain value."""
        memory = self.memory
        return (
            tuple(memory.room(0)), memory.half, tuple(memory.room(1 + memory.half)), tuple(memory.old_room()),
            self.remembered(), tuple(memory.grey_row()), memory.marks
        )


def heap_of(shapes, sizes, picture):
    """A heap with this picture; BadPicture for what is not sound by itself."""
    if not is_sound(shapes, sizes, picture, ()):
        raise BadPicture("this is no picture of a sound heap")
    heap = Heap(shapes, sizes)
    memory = heap.memory
    nursery, half, words, old, remembered, grey, marking = picture
    lay_room(memory, 0, nursery)
    memory.half = half
    lay_room(memory, 1 + half, words)
    memory.words.extend(old)
    for address in object_addresses(memory, memory.first_old, len(memory.words)):
        memory.old[address] = True
    for place in remembered:
        memory.remembered[place] = True
    memory.grey = list(grey)
    memory.marks = marking
    return heap


def copy_of_heap(heap):
    """An equal heap that goes its own way."""
    other = Heap(heap.memory.shapes, heap.memory.sizes)
    other.memory = copy_of_memory(heap.memory)
    return other


def lay_room(memory, room, words):
    first = memory.firsts[room]
    end = first + len(words)
    memory.words[first:end] = words
    memory.nexts[room] = end
    for address in object_addresses(memory, first, end):
        memory.young[address] = True


def object_addresses(memory, first, end):
    """Where the objects begin that lie side by side from one address to ahead of another one."""
    found = []
    while first < end:
        found.append(first)
        first += memory.size(first)
    return found
