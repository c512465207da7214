"""The small machine for modules, on the heap told by objects: code alone, with the deeds 0 to 5 of a schedule."""

from movedrun.family import is_reference
from tests.naiveheap import NaiveHeap
from tests.reference import Thing
from tests.running import Running, Spent

MAKING = ("call", "ask", "new", "row", "text", "tell")


class HeapRunning(Running):
    """Each Thing has an object of the heap beside it."""

    def __init__(self, module, given, bound, tables, sizes, schedule):
        super().__init__(module, given, bound, tables)
        shapes = tuple(tuple(is_reference(kind) for _, kind in self.fields(each[0])) for each in self.classes)
        self.heap = NaiveHeap(shapes, sizes)
        self.schedule = schedule
        self.taken_deeds = 0
        self.lying = {}
        self.minors = self.settles = 0

    def fields(self, name):
        return [field for above in self.line(name)[::-1] for each in self.classes if each[0] == above for field in each[2]]

    def value(self, value):
        """What a slot or a root holds of a value."""
        return self.lying[id(value)][1] if isinstance(value, Thing) else value

    def word(self, value, kind):
        return self.value(value) if is_reference(kind) else int(value)

    def roots(self):
        found = []
        for frame in self.frames:
            index, place = frame["function"], frame["place"]
            _, kinds, sets = self.tables[index]
            # One that waits stands behind its call.
            place = place if frame is self.frames[-1] else place - 1
            own = self.functions[index][1] + self.functions[index][3]
            found += [frame["slots"][slot] for slot in sets[place] if is_reference(own[slot])]
            found += [value for value, kind in zip(frame["stack"], kinds[place]) if is_reference(kind)]
        return found

    def things(self, values):
        return [self.value(value) for value in values]

    def step(self, frame):
        index, place = frame["function"], frame["place"]
        word, *borne = self.functions[index][4][place]
        kinds = self.tables[index][1][place]
        stack = list(frame["stack"])
        if word in MAKING or word == "add" and kinds[-1] in ("text", "nil") or word in ("jump", "if") and borne[0] <= place:
            if self.left == 0 and self.has_beat(word, borne, stack):
                raise Spent
            if self.schedule:
                self.take(self.schedule[self.taken_deeds % len(self.schedule)])
                self.taken_deeds += 1
        super().step(frame)
        if word in ("text", "tell", "add", "new", "row") and isinstance(frame["stack"][-1], Thing):
            self.lay(frame, place, stack, word, frame["stack"][-1])
        elif word == "put":
            thing, value = stack[-2:]
            names = [field for field, _ in self.fields(thing.kind[1])]
            kind = dict(self.fields(thing.kind[1]))[borne[1]]
            self.heap.put(self.value(thing), names.index(borne[1]), self.word(value, kind))
        elif word == "set":
            row, at, value = stack[-3:]
            self.heap.put(self.value(row), at, self.word(value, row.kind[1]))

    def has_beat(self, word, borne, stack):
        if word in ("call", "jump"):
            return True
        if word == "ask":
            method = self.methods(borne[0])[borne[1]]
            return stack[-len(self.functions[method][1])] is not None
        return word == "if" and stack[-1]

    def take(self, deed):
        roots = self.things(self.roots())
        if deed == 1:
            self.minors += 1
            self.heap.minor(roots)
        elif deed in (2, 3):
            self.heap.slice(1 if deed == 2 else 7, roots)
        elif deed == 4:
            self.heap.whole(roots)
        elif deed == 5:
            self.settles += 1
            self.heap.settle(roots)

    def lay(self, frame, place, stack, word, thing):
        """Lays what was just made, with the roots as they were while it was made."""
        above, behind = frame["stack"], frame["place"]
        many = {"add": 2, "tell": 1, "row": 1}.get(word, 0)
        frame["stack"], frame["place"] = stack[:len(stack) - many], place
        taken = [value for value in stack[len(stack) - many:] if isinstance(value, Thing)]
        roots = self.things(self.roots() + taken)
        frame["stack"], frame["place"] = above, behind
        if thing.kind == "text":
            kind, slots = -3, [ord(sign) for sign in thing.slots]
        elif thing.kind[0] == "row":
            kind, slots = -2 if is_reference(thing.kind[1]) else -1, thing.slots
        else:
            kind, slots = [each[0] for each in self.classes].index(thing.kind[1]), self.fields(thing.kind[1])
        room = self.heap.words(self.heap.nursery) + 2 + len(slots) <= self.heap.nursery_words
        if not room and 2 + len(slots) <= self.heap.great:
            self.minors += 1
        lying = self.heap.make(kind, len(slots), roots)
        if kind == -3:
            lying.slots = slots
        # The Thing is kept, too, so that no other one gets its id.
        self.lying[id(thing)] = (thing, lying)


def heap_behind(module, given, bound, tables, sizes, schedule):
    """(outcome, picture, collected) behind a run of code alone."""
    run = HeapRunning(module, given, bound, tables, sizes, schedule)
    outcome = run.outcome()
    return outcome, run.heap.picture(), (run.minors, run.settles, run.heap.ends)
