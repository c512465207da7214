"""The plain heap: its objects are never moved and never gone. It is what other heaps are held against."""

from movedrun.errors import BadAddress, BadCount, BadSlot, BadValue
from movedrun.forms import GREATEST_INT, LEAST_INT, is_between, is_integer
from movedrun.heapforms import MOST_SLICE, is_link, look_at_kind, look_at_roots, look_at_shapes, look_at_size
from movedrun.tracing import Tracing


class PlainHeap:
    """Objects are numbered from 1 on as they are made."""

    def __init__(self, shapes):
        look_at_shapes(shapes)
        self.shapes = shapes
        self.kinds = []
        self.bodies = []

    def is_object(self, address):
        return 1 <= address <= len(self.bodies)

    def look_at(self, roots):
        look_at_roots(roots, self)

    def look_at_address(self, address):
        if not is_integer(address) or not self.is_object(address):
            raise BadAddress("this is no number of an object")

    def look_at_slot(self, address, slot):
        self.look_at_address(address)
        if not is_between(slot, 0, len(self.bodies[address - 1]) - 1):
            raise BadSlot("the object has no such slot")

    def make(self, kind, slots, roots):
        """(number, roots): a new object, all slots 0."""
        look_at_kind(self.shapes, kind)
        look_at_size(self.shapes, kind, slots)
        self.look_at(roots)
        self.kinds.append(kind)
        self.bodies.append([0] * slots)
        return (len(self.bodies), roots)

    def kind(self, address):
        self.look_at_address(address)
        return self.kinds[address - 1]

    def slots(self, address):
        """How many slots an object has."""
        self.look_at_address(address)
        return len(self.bodies[address - 1])

    def get(self, address, slot):
        self.look_at_slot(address, slot)
        return self.bodies[address - 1][slot]

    def put(self, address, slot, value):
        self.look_at_slot(address, slot)
        if is_link(self.shapes, self.kinds[address - 1], slot):
            if not is_integer(value) or (value != 0 and not self.is_object(value)):
                raise BadValue("a reference slot holds the number of an object, or 0")
        elif not is_between(value, LEAST_INT, GREATEST_INT):
            raise BadValue("a plain slot holds a word")
        self.bodies[address - 1][slot] = value

    def graph(self, roots):
        """(numbers, things): what can be come to from the roots."""
        self.look_at(roots)
        return self.traced(roots).graph()

    def traced(self, roots):
        tracing = Tracing(self.shapes, roots)
        while tracing.waits():
            address = tracing.first_untold()
            tracing.tell(self.kinds[address - 1], self.bodies[address - 1])
        return tracing

    def unreached(self, roots):
        """How many objects cannot be come to from the roots."""
        self.look_at(roots)
        return len(self.bodies) - self.traced(roots).many()

    def minor(self, roots):
        self.look_at(roots)
        return roots

    def settle(self, roots):
        self.look_at(roots)
        return roots

    def begin(self, roots):
        self.look_at(roots)
        return roots

    def slice(self, count, roots):
        if not is_between(count, 0, MOST_SLICE):
            raise BadCount("this is no integer from 0 to 1,000,000")
        self.look_at(roots)
        return roots

    def whole(self, roots):
        self.look_at(roots)
        return roots


def alike(heap, roots, other, others):
    """Whether the graph of a heap's roots is that of another heap's."""
    graph = heap.graph(roots)
    return graph == other.graph(others)
