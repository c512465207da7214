"""Views: their form, the kinds at which their sources stand, and the view of one frame that an entry has."""

from movedrun.effects import MIXED, taken
from movedrun.family import is_reference
from movedrun.forms import GREATEST_INT, LEAST_INT, is_between, is_integer, is_tuple_of
from movedrun.known import slot_kinds

MOST_VIEW_FRAMES = 5


def is_view(known, thing):
    """Whether a thing is a view of the module."""
    if not isinstance(thing, tuple) or not 1 <= len(thing) <= MOST_VIEW_FRAMES:
        return False
    for frame in thing:
        if not is_frame_form(known, frame):
            return False
    for index, frame in enumerate(thing):
        if index < len(thing) - 1 and not waits_for(known, frame, thing[index + 1][0]):
            return False
        if not are_sources_right(known, frame, index < len(thing) - 1):
            return False
    return True


def is_frame_form(known, frame):
    if not is_tuple_of(frame, 4):
        return False
    function, place, slots, stack = frame
    if not is_between(function, 0, len(known.functions) - 1):
        return False
    if not is_between(place, 0, len(known.functions[function][4]) - 1):
        return False
    return isinstance(slots, tuple) and isinstance(stack, tuple)


def waits_for(known, frame, callee):
    """Whether a frame stands behind a call or an ask that can begin this function."""
    if frame[1] == 0 or known.kinds[frame[0]][frame[1] - 1] is None:
        return False
    instruction = call_of(known, frame)
    return instruction[0] in ("call", "ask") and callee in known.callees(instruction)


def call_of(known, frame):
    """The instruction ahead of the one at which a frame that waits stands."""
    return known.functions[frame[0]][4][frame[1] - 1]


def stack_kinds_of(known, frame, waits):
    """The kinds of what lies on a frame's stack; what was handed in is off it. None for a place without kinds."""
    function, place, _, _ = frame
    if not waits:
        return known.kinds[function][place]
    kinds = known.kinds[function][place - 1]
    many = len(taken(known, known.functions[function], call_of(known, frame)))
    return kinds[:len(kinds) - many]


def set_slots_of(known, frame, waits):
    return known.sets[frame[0]][frame[1] - 1 if waits else frame[1]]


def are_sources_right(known, frame, waits):
    """Whether just what is set has sources, and all are of the right kinds."""
    function, _, slots, stack = frame
    kinds = stack_kinds_of(known, frame, waits)
    if kinds is None or len(stack) != len(kinds):
        return False
    own = slot_kinds(known.functions[function])
    if len(slots) != len(own):
        return False
    is_set = set_slots_of(known, frame, waits)
    for slot, source in enumerate(slots):
        if slot not in is_set:
            if source is not None:
                return False
        elif not is_source(source) or not is_source_of(source, own[slot]):
            return False
    for source, kind in zip(stack, kinds):
        if not is_source(source) or not is_source_of(source, kind):
            return False
    return True


def is_source(thing):
    """Whether a thing is a register or a constant."""
    if not isinstance(thing, tuple) or thing == () or not isinstance(thing[0], str):
        return False
    if thing[0] == "nil":
        return len(thing) == 1
    if len(thing) != 2:
        return False
    if thing[0] == "r":
        return is_integer(thing[1]) and thing[1] >= 0
    if thing[0] == "int":
        return is_between(thing[1], LEAST_INT, GREATEST_INT)
    return thing[0] == "truth" and isinstance(thing[1], bool)


def is_source_of(source, kind):
    """Whether a source may stand where the kind is this one."""
    if source[0] == "r" or kind == MIXED:
        return True
    if source[0] == "nil":
        return is_reference(kind)
    return source[0] == kind


def sources_of(known, view):
    """(source, kind) of all sources of a view, frame by frame, locals first."""
    found = []
    for index, frame in enumerate(view):
        waits = index < len(view) - 1
        own = slot_kinds(known.functions[frame[0]])
        found.extend([(source, own[slot]) for slot, source in enumerate(frame[2]) if source is not None])
        found.extend(list(zip(frame[3], stack_kinds_of(known, frame, waits))))
    return found


def fact_registers(known, view):
    """The registers that stand in a view at a reference kind (nil's own too), ascending."""
    found = {}
    for source, kind in sources_of(known, view):
        if source[0] == "r" and is_reference(kind):
            found[source[1]] = True
    return sorted(list(found))


def entry_view(known, function, place):
    """The view of one frame in which a strip is entered at a place."""
    slots = [None] * len(slot_kinds(known.functions[function]))
    for number, slot in enumerate(known.sets[function][place]):
        slots[slot] = ("r", number)
    first = len(known.sets[function][place])
    stack = [("r", first + index) for index in range(len(known.kinds[function][place]))]
    return ((function, place, tuple(slots), tuple(stack)),)


def entry_places(known, function):
    """The places at which a strip of the function has entries, ascending."""
    places = {0: True}
    kinds = known.kinds[function]
    for place, instruction in enumerate(known.functions[function][4]):
        if instruction[0] in ("jump", "if") and kinds[place] is not None and instruction[1] <= place:
            places[instruction[1]] = True
    return sorted(list(places))
