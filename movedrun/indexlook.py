"""The look at what a function's instructions and catches name by an index or within a class, and at its end."""

from movedrun.errors import NotVerified
from movedrun.known import slot_kinds

ENDING = ("jump", "done", "throw")


def look_at_indexes(known, index):
    """Raises NotVerified for what is not there, and for an end that code runs beyond."""
    function = known.functions[index]
    code = function[4]
    wrong = [place for place, instruction in enumerate(code) if not is_there(known, function, instruction)]
    for begin, end, to, _ in function[5]:
        if not begin < end <= to < len(code):
            wrong.append(begin)
    if wrong:
        raise NotVerified(("index", index, min(wrong)))
    if code[-1][0] not in ENDING:
        raise NotVerified(("end", index, len(code) - 1))


def is_there(known, function, instruction):
    """Whether the local, function, field, method or place that an instruction names is there."""
    word = instruction[0]
    if word == "load" or word == "store":
        return instruction[1] < len(slot_kinds(function))
    if word == "jump" or word == "if":
        return instruction[1] < len(function[4])
    if word == "call":
        return known.has_function(instruction[1])
    if word == "ask":
        return known.method(instruction[1], instruction[2]) is not None
    if word == "get" or word == "put":
        return known.family.field_kind(instruction[1], instruction[2]) is not None
    return True
