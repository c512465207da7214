"""The slow machine: it runs a module instruction by instruction, its things being in whatever store it is given."""

from movedrun.values import MOST_CALLS, Fault, Spent


class CodeFrame:
    """A call that is not done; of one that waits, the place is the one behind its call or ask."""

    def __init__(self, function, place, slots, stack, code):
        self.function = function
        self.place = place
        # A local that was never set is None.
        self.slots = slots
        self.stack = stack
        self.code = code

    def take_last(self, many):
        """The topmost values, the lowest of them first."""
        first = len(self.stack) - many
        found = self.stack[first:]
        del self.stack[first:]
        return found

    def take_result(self, values):
        self.stack.extend(values)


class Run:
    """A run of a verified module: its frames, main's first, and what it has used of its input and its beats.

    It stops ahead of the beat that would be one too many, and goes on from there with a greater bound.
    """

    def __init__(self, known, codes, given):
        self.known = known
        self.codes = codes
        self.given = given
        # Set by those that know how things are kept.
        self.store = None
        self.used = 0
        self.beats = 0
        self.bound = 0
        self.shown = []
        self.frames = []
        self.begun = [0] * len(known.functions)
        self.receivers = {}
        self.has_begun = False
        # How it ended, if it has.
        self.end = None

    def outcome(self, bound):
        """How it goes with so many beats."""
        self.bound = bound
        if self.end is None:
            try:
                self.go_on()
                self.end = ("end", "")
            except Fault as fault:
                self.end = ("fault", (fault.word, self.known.functions[self.frames[-1].function][0]))
            except Spent:
                return ("spent", "", tuple(self.shown))
            self.frames = []
        return (self.end[0], self.end[1], tuple(self.shown))

    def go_on(self):
        if not self.has_begun:
            self.has_begun = True
            self.begin(self.known.main, [])
        while self.frames:
            frame = self.frames[-1]
            op = frame.code[frame.place]
            action = op.action
            action(self, frame, op)

    def beat(self):
        if self.beats == self.bound:
            raise Spent("no beat is left")
        self.beats += 1

    def is_full(self):
        return len(self.frames) == MOST_CALLS

    def call(self, frame, op, index):
        """A call or an ask, as it begins a function."""
        self.beat()
        if self.is_full():
            raise Fault("deep")
        handed = frame.take_last(op.takes)
        frame.place += 1
        self.begin(index, handed)

    def begin(self, index, handed):
        self.begun[index] += 1
        self.open_frame(index, handed)

    def open_frame(self, index, handed):
        slots = handed + [None] * len(self.known.functions[index][3])
        self.frames.append(CodeFrame(index, 0, slots, [], self.codes.code(index)))

    def jump(self, frame, to):
        frame.place = to

    def leave(self, values):
        """The innermost frame ends; the one ahead of it takes what it returns."""
        self.frames.pop()
        if self.frames:
            self.frames[-1].take_result(values)

    def throw(self, thing):
        name = self.store.class_of(thing)
        many = len(self.frames)
        while many > 0:
            many = self.come_to_frame(many)
            frame = self.frames[many - 1]
            # One that waits stands behind its call.
            place = frame.place if many == len(self.frames) else frame.place - 1
            to = self.caught_at(frame.function, place, name)
            if to is not None:
                del self.frames[many:]
                frame.place = to
                frame.stack = [thing]
                return
            many -= 1
        raise Fault("thrown")

    def come_to_frame(self, many):
        """How many frames there are up to the one that is come to; other tiers may have to lay theirs first."""
        return many

    def caught_at(self, function, place, name):
        """The place at which an object of the class goes on that is thrown at this one, None if it does not."""
        for begin, end, to, above in self.known.functions[function][5]:
            if begin <= place < end and name in self.codes.below[above]:
                return to
        return None

    def take_given(self):
        if self.used == len(self.given):
            raise Fault("dry")
        self.used += 1
        return self.given[self.used - 1]
