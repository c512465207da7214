"""Graphs of heaps: objects are numbered from 1 on as they are found."""

from movedrun.heapforms import LINK_ROW, shape_links


class Tracing:
    """What is come to from the roots; the heap tells each object's kind and body as it is asked for."""

    def __init__(self, shapes, roots):
        self.shapes_links = [shape_links(shape) for shape in shapes]
        self.numbers_by_name = {}
        self.found = []
        self.things = []
        self.numbers = tuple([self.number(root) for root in roots])

    def number(self, name):
        """The number of what the heap has under this name, 0 being nil."""
        if name == 0:
            return 0
        if name not in self.numbers_by_name:
            self.found.append(name)
            self.numbers_by_name[name] = len(self.found)
        return self.numbers_by_name[name]

    def waits(self):
        return len(self.things) < len(self.found)

    def first_untold(self):
        """The heap's name of the next object to be told."""
        return self.found[len(self.things)]

    def tell(self, kind, body):
        """The next one's kind and body; its references are numbered."""
        body = list(body)
        for slot in self.links(kind, len(body)):
            body[slot] = self.number(body[slot])
        self.things.append((kind, tuple(body)))

    def links(self, kind, many):
        if kind >= 0:
            return self.shapes_links[kind]
        return tuple(range(many)) if kind == LINK_ROW else ()

    def many(self):
        return len(self.found)

    def graph(self):
        return (self.numbers, tuple(self.things))
