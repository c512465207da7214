"""The roots of a machine: what its frames hold that may be things (point 42)."""

from movedrun.family import is_reference
from movedrun.graphs import place_of_kinds
from movedrun.known import slot_kinds
from movedrun.striprows import StripFrame


class Roots:
    """Where the roots of a run lie: they are told to the heap, and laid back as it moved them."""

    def __init__(self, run):
        self.run = run
        # By function and place: the locals, and the stack's places, that may hold things.
        self.slots = {}
        # Where those that were told last lie, as (list, index).
        self.holders = []

    def told(self):
        """The roots, 0 for nil, frame by frame from the outermost."""
        self.holders = []
        for index, frame in enumerate(self.run.frames):
            waits = index < len(self.run.frames) - 1
            if isinstance(frame, StripFrame):
                registers = frame.strip.row(frame.row).roots(self.run.known, waits)
                self.holders.extend([(frame.registers, number) for number in registers])
            else:
                self.tell_slow(frame, waits)
        return tuple([0 if holder[at] is None else holder[at] for holder, at in self.holders])

    def tell_slow(self, frame, waits):
        slots, stack = self.places(frame.function, place_of_kinds(frame, waits))
        self.holders.extend([(frame.slots, slot) for slot in slots])
        # What an instruction has taken, or was handed in, lay on top.
        self.holders.extend([(frame.stack, at) for at in stack if at < len(frame.stack)])

    def places(self, function, place):
        if (function, place) not in self.slots:
            own = slot_kinds(self.run.known.functions[function])
            kinds = self.run.known.kinds[function][place]
            self.slots[function, place] = (
                [slot for slot in self.run.known.sets[function][place] if is_reference(own[slot])],
                [at for at, kind in enumerate(kinds) if is_reference(kind)]
            )
        return self.slots[function, place]

    def lay_back(self, roots):
        """Lays the first ones of these where the roots that were told last lie."""
        for holder, root in zip(self.holders, roots):
            holder[0][holder[1]] = None if root == 0 else root
