"""The machine's run: by code or by strips, its things on a heap, with a deed of a schedule at each anchor."""

from movedrun.graphs import graph_of
from movedrun.lifting import lifted
from movedrun.roots import Roots
from movedrun.rowactions import ROW_ACTIONS
from movedrun.runs import CodeFrame, Run
from movedrun.striprows import Strip, StripFrame
from movedrun.values import MOST_CALLS, Spent
from movedrun.wordstore import WordStore

# A view has no more registers than this.
MOST_REGISTERS = 200


class TieredRun(Run):
    """A run in which each function may have a strip; what the heap moves is laid back into the frames."""

    def __init__(self, known, codes, given, heap, schedule):
        super().__init__(known, codes, given)
        self.heap = heap
        self.roots = Roots(self)
        self.store = WordStore(known, heap, self.roots)
        self.schedule = schedule
        self.next_deed = 0
        # Whether the schedule's deed at the instruction that is next was taken already.
        self.had_deed = False
        self.strips = {}
        # How many frames are opened within others.
        self.opened = 0
        self.outs = 0
        self.ups = 0
        self.lifts = {}

    def go_on(self):
        if not self.has_begun:
            self.has_begun = True
            self.begin(self.known.main, [])
        while self.frames:
            frame = self.frames[-1]
            if isinstance(frame, StripFrame):
                row = frame.strip.row(frame.row)
                action = ROW_ACTIONS[row.word]
                action(self, frame, row)
            else:
                self.step_slow(frame)

    def step_slow(self, frame):
        op = frame.code[frame.place]
        if op.is_anchor and self.schedule != ():
            if has_beat(frame, op):
                self.look_at_bound()
            if self.meets_deed():
                return
        action = op.action
        action(self, frame, op)

    def look_at_bound(self):
        """A run that is spent stands ahead of the deed of the schedule, too."""
        if self.beats == self.bound:
            raise Spent("no beat is left")

    def is_full(self):
        return len(self.frames) + self.opened == MOST_CALLS

    def meets_deed(self):
        """Takes the schedule's next deed; whether the instruction is to be come to again, in another tier."""
        if self.had_deed:
            self.had_deed = False
            return False
        if self.schedule == ():
            return False
        frame = self.frames[-1]
        deed = self.schedule[self.next_deed]
        self.next_deed = (self.next_deed + 1) % len(self.schedule)
        self.take_deed(deed)
        self.had_deed = self.frames[-1] != frame
        return self.had_deed

    def take_deed(self, deed):
        if deed == 1:
            self.minor()
        elif deed == 2:
            self.slice(1)
        elif deed == 3:
            self.slice(7)
        elif deed == 4:
            self.whole()
        elif deed == 5:
            self.settle()
        elif deed == 6 or deed == 7:
            self.lift_innermost(deed == 7)
        elif deed == 8:
            self.out()
        elif deed == 9:
            self.forget_all()

    def minor(self):
        self.roots.lay_back(self.heap.minor(self.roots.told()))

    def settle(self):
        self.roots.lay_back(self.heap.settle(self.roots.told()))

    def slice(self, count):
        self.roots.lay_back(self.heap.slice(count, self.roots.told()))

    def whole(self):
        self.roots.lay_back(self.heap.whole(self.roots.told()))

    def lift_innermost(self, is_guessing):
        """The function of the innermost frame gets a strip, if that frame is slow."""
        frame = self.frames[-1]
        if isinstance(frame, StripFrame):
            return
        guesses = self.guesses() if is_guessing else ()
        key = (frame.function, is_guessing, guesses)
        if key not in self.lifts:
            opened = self.opened_places() if is_guessing else ()
            made = lifted(self.known, self.codes, frame.function, guesses, opened)
            self.lifts[key] = None if made is None else self.ready_strip(made)
        if self.lifts[key] is not None:
            self.strips[frame.function] = self.lifts[key]

    def ready_strip(self, told):
        return Strip(told, self.codes)

    def guesses(self):
        """For each ask that has begun a method: its receiver's class there last."""
        return tuple(sorted([(place[0], place[1], name) for place, name in self.receivers.items()]))

    def opened_places(self):
        """All calls of the module, and the asks that are guessed."""
        found = [place for place in self.receivers]
        for index, function in enumerate(self.known.functions):
            for place, instruction in enumerate(function[4]):
                if instruction[0] == "call":
                    found.append((index, place))
        return tuple(sorted(found))

    def out(self):
        """The innermost strip goes out, if the innermost frame is one's."""
        if self.frames and isinstance(self.frames[-1], StripFrame):
            self.go_out()

    def go_out(self):
        self.lay_slow(len(self.frames) - 1)

    def lay_slow(self, index):
        """Lays the frames that a strip's frame stands for in its place; returns how many there are."""
        frame = self.frames[index]
        laid = frame.laid(index < len(self.frames) - 1)
        self.frames[index:index + 1] = laid
        self.opened -= len(laid) - 1
        self.outs += 1
        return len(laid)

    def forget_all(self):
        self.strips = {}
        for index in range(len(self.frames) - 1, -1, -1):
            if isinstance(self.frames[index], StripFrame):
                self.lay_slow(index)

    def open_frame(self, index, handed):
        """A call, or main's beginning: in a strip, if one is held."""
        if index not in self.strips:
            super().open_frame(index, handed)
            return
        self.frames.append(self.entered(self.strips[index], 0, handed))

    def entered(self, strip, place, values):
        """A frame in a strip at one of its entries, with these values in its first registers."""
        self.ups += 1
        return StripFrame(strip, strip.entries[place], values + [None] * (MOST_REGISTERS - len(values)))

    def jump(self, frame, to):
        """A slow frame that goes back may go on in a strip."""
        is_back = to <= frame.place
        frame.place = to
        strip = self.strips.get(frame.function)
        if is_back and strip is not None and to in strip.entries:
            values = [frame.slots[slot] for slot in self.known.sets[frame.function][to]] + frame.stack
            self.frames[-1] = self.entered(strip, to, values)

    def come_to_frame(self, many):
        """What is thrown to a strip that waits comes to the frames that it stands for."""
        if isinstance(self.frames[many - 1], StripFrame):
            return many + self.lay_slow(many - 1) - 1
        return many

    def slow_frames(self):
        """All frames as slow ones: what the run stands for."""
        found = []
        for index, frame in enumerate(self.frames):
            if isinstance(frame, StripFrame):
                found.extend(frame.laid(index < len(self.frames) - 1))
            else:
                found.append(frame)
        return found

    def graph(self):
        """The graph of the moment, None if the run has ended."""
        if self.end is not None:
            return None
        if not self.has_begun:
            main = self.known.main
            slots = [None] * len(self.known.functions[main][3])
            return graph_of(self.known, [CodeFrame(main, 0, slots, [], [])], self.store)
        return graph_of(self.known, self.slow_frames(), self.store)


def has_beat(frame, op):
    """Whether the instruction, an anchor, would make a beat."""
    if op.word == "call" or op.word == "jump":
        return True
    if op.word == "ask":
        return frame.stack[-op.takes] is not None
    return op.word == "if" and frame.stack[-1]


def copy_of_run(run, heap):
    """An equal run that goes its own way, on an equal heap."""
    other = TieredRun(run.known, run.codes, run.given, heap, run.schedule)
    other.used = run.used
    other.beats = run.beats
    other.bound = run.bound
    other.shown = list(run.shown)
    other.frames = [copy_of_frame(frame) for frame in run.frames]
    other.begun = list(run.begun)
    other.receivers = {place: name for place, name in run.receivers.items()}
    other.has_begun = run.has_begun
    other.end = run.end
    other.next_deed = run.next_deed
    other.had_deed = run.had_deed
    other.strips = {index: strip for index, strip in run.strips.items()}
    other.opened = run.opened
    other.outs = run.outs
    other.ups = run.ups
    other.lifts = {key: strip for key, strip in run.lifts.items()}
    return other


def copy_of_frame(frame):
    if isinstance(frame, StripFrame):
        return StripFrame(frame.strip, frame.row, list(frame.registers))
    return CodeFrame(frame.function, frame.place, list(frame.slots), list(frame.stack), frame.code)
