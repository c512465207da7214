"""Minor collections: the young objects that are reached are moved out of the nursery and of the half in use."""

from movedrun.heapforms import GREY, WHITE, head_word


def move_young(memory, roots, is_settling):
    """Moves what is reached; returns the roots as they are then. Settling leaves nothing young."""
    moving = Moving(memory, is_settling)
    roots = tuple([moving.led(root) for root in roots])
    # What is led changes no other remembered slot.
    for place in sorted(list(memory.remembered)):
        memory.words[place] = moving.led(memory.words[place])
    moving.lead_moved()
    moving.finish()
    return roots


class Moving:
    """One moving: where each object went, and those whose slots are still to be led."""

    def __init__(self, memory, is_settling):
        self.memory = memory
        self.is_settling = is_settling
        self.half = 1 - memory.half
        self.moved = {}
        self.to_half = []
        self.to_old = []

    def led(self, reference):
        """Where a reference leads now; its object is moved if it was not yet."""
        if not self.memory.is_young(reference):
            return reference
        if reference not in self.moved:
            self.moved[reference] = self.move(reference)
        return self.moved[reference]

    def move(self, address):
        memory = self.memory
        many = memory.size(address)
        age = memory.age_of(address) + 1
        words = memory.words[address:address + many]
        room = 1 + self.half
        if not self.is_settling and age < memory.age and memory.fits(room, many):
            words[0] = head_word(memory.kind(address), age, WHITE)
            other = memory.lay_young(room, words)
            self.to_half.append(other)
            return other
        words[0] = head_word(memory.kind(address), 0, GREY if memory.marks else WHITE)
        other = memory.lay_old(words)
        self.to_old.append(other)
        if memory.marks:
            memory.grey.append(other)
        return other

    def lead_moved(self):
        """Leads what is in the slots of moved objects: always of the first one in the half, if there is one."""
        in_half = 0
        in_old = 0
        while in_half < len(self.to_half) or in_old < len(self.to_old):
            if in_half < len(self.to_half):
                self.lead_slots(self.to_half[in_half])
                in_half += 1
            else:
                self.lead_slots(self.to_old[in_old])
                in_old += 1

    def lead_slots(self, address):
        for place in self.memory.link_places(address):
            self.memory.words[place] = self.led(self.memory.words[place])

    def finish(self):
        memory = self.memory
        memory.young = {address: True for address in self.to_half}
        memory.nexts[0] = memory.firsts[0]
        memory.nexts[1 + memory.half] = memory.firsts[1 + memory.half]
        memory.half = self.half
        places = list(memory.remembered)
        for address in self.to_old:
            places.extend(memory.link_places(address))
        memory.remembered = {place: True for place in places if memory.is_young(memory.words[place])}
