"""Strips as runs need them, and the frames that are in one."""

from movedrun.family import is_reference
from movedrun.runs import CodeFrame
from movedrun.viewforms import fact_registers, sources_of


class Strip:
    """A strip that is held: told is what it was made of."""

    def __init__(self, told, codes):
        self.told = told
        self.function, entries, rows = told
        self.entries = {place: row for place, row in entries}
        self.codes = codes
        # Made as they are come to first.
        self.rows = [None] * len(rows)

    def row(self, index):
        if self.rows[index] is None:
            self.rows[index] = StripRow(self.told[2][index], self.codes)
        return self.rows[index]


class StripRow:
    """A row, and the instruction at the place of its view's last frame."""

    def __init__(self, row, codes):
        self.view, self.facts, deed, self.behind = row
        self.word = deed[0]
        self.function, self.place, _, stack = self.view[-1]
        self.op = codes.code(self.function)[self.place]
        self.operands = stack[len(stack) - self.op.takes:]
        # What of the deed the run of it asks for: a register, a class or pairs.
        self.borne = deed[1] if len(deed) > 1 else None
        self.held = {}

    def operand_values(self, registers):
        return [value_of_source(source, registers) for source in self.operands]

    def receiver_class(self):
        """The class that a fact tells of what an ask is asked of."""
        for number, name in self.facts:
            if self.operands[0] == ("r", number):
                return name
        return None

    def waiting_view(self):
        """The view while a call or an ask is done: behind it, what was handed in taken off."""
        function, place, slots, stack = self.view[-1]
        return self.view[:-1] + ((function, place + 1, slots, stack[:len(stack) - self.op.takes]),)

    def roots(self, known, waits):
        """The registers that may hold things, ascending."""
        if waits not in self.held:
            if waits:
                self.held[waits] = waiting_registers(known, self.view, self.op.takes)
            else:
                self.held[waits] = fact_registers(known, self.view)
        return self.held[waits]


def waiting_registers(known, view, handed):
    """The registers of a view that may hold things, without what was handed in."""
    sources = sources_of(known, view)
    found = {}
    # What was handed in lies on the last frame's stack, which is told last.
    for source, kind in sources[:len(sources) - handed]:
        if source[0] == "r" and is_reference(kind):
            found[source[1]] = True
    return sorted(list(found))


def value_of_source(source, registers):
    if source is None or source[0] == "nil":
        return None
    return registers[source[1]] if source[0] == "r" else source[1]


class StripFrame:
    """The frames of a view that run in a strip, as one; it is at a row, or waits there for what it called."""

    def __init__(self, strip, row, registers):
        self.strip = strip
        self.row = row
        self.registers = registers

    def take_result(self, values):
        row = self.strip.row(self.row)
        if values:
            self.registers[row.borne] = values[0]
        self.row = row.behind

    def view(self, waits):
        row = self.strip.row(self.row)
        return row.waiting_view() if waits else row.view

    def depth(self):
        """How many calls it stands for."""
        return len(self.strip.row(self.row).view)

    def laid(self, waits):
        """The frames that it stands for, as slow ones."""
        frames = []
        for function, place, slots, stack in self.view(waits):
            frames.append(CodeFrame(
                function, place, [value_of_source(source, self.registers) for source in slots],
                [value_of_source(source, self.registers) for source in stack], self.strip.codes.code(function)
            ))
        return frames
