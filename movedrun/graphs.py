"""Graphs of runs: what the frames hold, and all things that can be come to from there."""

from movedrun.effects import MIXED
from movedrun.family import class_of, entry_of, is_reference
from movedrun.known import slot_kinds

UNSET = "unset"


def place_of_kinds(frame, waits):
    """The place that tells the kinds of a frame: of one that waits its call's, which is the one ahead."""
    return frame.place - 1 if waits else frame.place


def graph_of(known, frames, store):
    """The graph of these frames, all but the last one waiting."""
    finding = Finding(known, store)
    told = []
    for index, frame in enumerate(frames):
        told.append(finding.frame(frame, index < len(frames) - 1))
    return (tuple(told), finding.things())


class Finding:
    """Numbers things in the sequence in which they are found."""

    def __init__(self, known, store):
        self.known = known
        self.store = store
        self.numbers = {}
        # Things and their kinds: how a thing lies does not tell its kind in every store.
        self.found = []

    def frame(self, frame, waits):
        place = place_of_kinds(frame, waits)
        is_set = self.known.sets[frame.function][place]
        kinds = slot_kinds(self.known.functions[frame.function])
        slots = [
            self.value(value, kinds[slot]) if slot in is_set else UNSET for slot, value in enumerate(frame.slots)
        ]
        # What was handed in lay on top.
        kinds = self.known.kinds[frame.function][place]
        stack = [self.value(value, kind) for value, kind in zip(frame.stack, kinds)]
        return (frame.function, frame.place, tuple(slots), tuple(stack))

    def value(self, value, kind):
        if kind == MIXED:
            return MIXED
        if value is None or not is_reference(kind):
            return value
        if value not in self.numbers:
            self.numbers[value] = len(self.found)
            self.found.append((value, kind))
        return ("thing", self.numbers[value])

    def things(self):
        """What is found grows while it is gone through."""
        told = []
        while len(told) < len(self.found):
            thing, kind = self.found[len(told)]
            told.append(self.thing(thing, kind))
        return tuple(told)

    def thing(self, thing, kind):
        if kind == "text":
            return ("text", self.store.signs(thing))
        if class_of(kind) is not None:
            name = self.store.class_of(thing)
            return ("of", name, self.told_values(thing, [own for _, own in self.known.fields(name)]))
        entry = entry_of(kind)
        return ("row", entry, self.told_values(thing, [entry] * self.store.size(thing)))

    def told_values(self, thing, kinds):
        return tuple([self.value(value, kind) for value, kind in zip(self.store.held(thing, kinds), kinds)])
