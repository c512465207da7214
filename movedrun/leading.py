"""What each deed of a strip's row leads to, as views tell it.

A way is (view, written, told): the view behind, not yet settled; the register that the deed wrote, or None; and the
facts that the deed tells. A rule returns the ways of its deed at a row, None where the deed does not fit there.
"""

from movedrun.known import slot_kinds
from movedrun.viewforms import MOST_VIEW_FRAMES
from movedrun.works import add_texts

# Without a register among their operands these are silent, or sure to fault.
RECKONING = ("add", "sub", "mul", "div", "rem", "less", "same", "not")
DOING = (
    "text", "at", "set", "size", "sign", "tell", "is", "as", "new", "row", "get", "put", "show", "read"
)
# Those that take an object of a class that they name.
GUARDED = ("ask", "get", "put")


class Standing:
    """A view and its facts, and the instruction at the place of its last frame."""

    def __init__(self, known, codes, view, facts):
        self.known = known
        self.codes = codes
        self.view = view
        self.facts = facts
        self.function, self.place, self.slots, self.stack = view[-1]
        self.op = codes.code(self.function)[self.place]

    def instruction(self):
        return self.known.functions[self.function][4][self.place]

    def operands(self):
        """The sources of what the instruction takes, the topmost last."""
        return self.stack[len(self.stack) - self.op.takes:]

    def left(self):
        """The stack without them."""
        return self.stack[:len(self.stack) - self.op.takes]

    def fact(self, source):
        """The class that a fact tells of a source, None if none does."""
        for number, name in self.facts:
            if source == ("r", number):
                return name
        return None

    def receiver(self):
        return self.operands()[0]

    def stepped(self, to, stack):
        """The view behind a step of the last frame to a place with this stack; None if no way leads there."""
        return stepped_to(self.known, self.view[:-1], (self.function, self.place, self.slots, self.stack), to, stack)

    def written(self, number):
        """The view behind the instruction, what comes of it being in the register."""
        stack = self.left()
        return self.stepped(self.place + 1, stack if number is None else stack + (("r", number),))

    def callee(self):
        """The function that is meant: by a fact, where it is an ask. None if that is not told."""
        if self.op.word == "call":
            return self.op.borne
        if self.op.word != "ask":
            return None
        return self.op.borne.get(self.fact(self.receiver()))

    def has_room_for(self, function):
        """Whether the bounds of a view let the function be opened within this one."""
        if len(self.view) == MOST_VIEW_FRAMES:
            return False
        for frame in self.view:
            if frame[0] == function:
                return False
        return True


def stepped_to(known, ahead, frame, to, stack):
    """The view behind a step of a frame to a place; what is set no more there is dropped."""
    function, _, slots, _ = frame
    is_set = known.sets[function][to]
    if is_set is None:
        return None
    slots = tuple([source if slot in is_set else None for slot, source in enumerate(slots)])
    return ahead + ((function, to, slots, stack),)


def ways(standing, deed):
    """The ways of a deed at a view, None where it does not fit. What moves lead to is told by the row behind them."""
    rule = RULES[deed[0]]
    return rule(standing, deed)


def lead_do(standing, deed):
    if not is_doing(standing) or (deed[1] is None) != (standing.op.puts == 0):
        return None
    told = ()
    if standing.op.word == "new":
        told = ((deed[1], standing.op.borne),)
    return one_way(standing.written(deed[1]), deed[1], told)


def is_doing(standing):
    """Whether the instruction is one that a do does."""
    op = standing.op
    if op.word in DOING or op.work == add_texts:
        return True
    if op.word not in RECKONING:
        return False
    for source in standing.operands():
        if source[0] == "r":
            return True
    return False


def one_way(view, written, told):
    """A way to a view, if there is one, and if what is written stands there once at most."""
    if view is None or (written is not None and times(view, written) > 1):
        return None
    return ((view, written, told),)


def times(view, number):
    """How often a register stands in a view."""
    source = ("r", number)
    return sum([frame[2].count(source) + frame[3].count(source) for frame in view])


def lead_if(standing, deed):
    if standing.op.word != "if" or standing.stack[-1][0] != "r":
        return None
    left = standing.left()
    found = (standing.stepped(standing.place + 1, left), standing.stepped(standing.op.borne, left))
    return tuple([(view, None, ()) for view in found])


def lead_beat(standing, deed):
    if standing.op.word != "jump" or standing.op.borne > standing.place:
        return None
    return one_way(standing.stepped(standing.op.borne, standing.stack), None, ())


def lead_call(standing, deed):
    if standing.op.word not in ("call", "ask") or (deed[1] is None) != (standing.op.puts == 0):
        return None
    return one_way(standing.written(deed[1]), deed[1], ())


def lead_guard(standing, deed):
    if standing.op.word not in GUARDED or standing.receiver()[0] != "r":
        return None
    if standing.fact(standing.receiver()) is not None:
        return None
    if deed[1] not in standing.codes.below[standing.instruction()[1]]:
        return None
    return one_way(standing.view, None, ((standing.receiver()[1], deed[1]),))


def lead_enter(standing, deed):
    callee = standing.callee()
    if callee is None or not standing.has_room_for(callee):
        return None
    many = len(slot_kinds(standing.known.functions[callee]))
    args = standing.operands()
    # Behind the call what is set may be less: that is dropped as the callee ends.
    waiting = (standing.function, standing.place + 1, standing.slots, standing.left())
    opened = (callee, 0, args + (None,) * (many - len(args)), ())
    return one_way(standing.view[:-1] + (waiting, opened), None, ())


def lead_leave(standing, deed):
    if standing.op.word != "done" or len(standing.view) == 1:
        return None
    frame = standing.view[-2]
    stack = frame[3] + standing.operands()
    return one_way(stepped_to(standing.known, standing.view[:-2], frame, frame[1], stack), None, ())


def lead_done(standing, deed):
    return () if standing.op.word == "done" and len(standing.view) == 1 else None


def lead_out(standing, deed):
    return ()


RULES = {
    "do": lead_do,
    "if": lead_if,
    "beat": lead_beat,
    "call": lead_call,
    "guard": lead_guard,
    "enter": lead_enter,
    "leave": lead_leave,
    "done": lead_done,
    "out": lead_out,
}
