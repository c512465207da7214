"""What each instruction takes from the stack and puts there: how many values, and of which kinds."""

from movedrun.family import NIL, class_of, entry_of, is_reference
from movedrun.known import slot_kinds

# The kind of a value of which two ways tell unlike things.
MIXED = "mixed"

# The kinds of what is taken, the topmost last, where the word alone tells them; None is told by a rule of its own.
TAKEN = {
    "int": (),
    "truth": (),
    "text": (),
    "nil": (),
    "load": (),
    "drop": (None,),
    "twin": (None,),
    "add": (None, None),
    "sub": ("int", "int"),
    "mul": ("int", "int"),
    "div": ("int", "int"),
    "rem": ("int", "int"),
    "less": ("int", "int"),
    "same": (None, None),
    "not": ("truth",),
    "jump": (),
    "if": ("truth",),
    "new": (),
    "row": ("int",),
    "at": (None, "int"),
    "set": (None, "int", None),
    "size": (None,),
    "sign": ("text", "int"),
    "tell": ("int",),
    "is": (None,),
    "as": (None,),
    "throw": (None,),
    "show": (None,),
    "read": (),
}

PUTS_NONE = ("store", "drop", "jump", "if", "done", "put", "set", "throw", "show")

# The kind of the one value that is put, where the word alone tells it.
PUT = {
    "int": "int",
    "truth": "truth",
    "text": "text",
    "nil": NIL,
    "sub": "int",
    "mul": "int",
    "div": "int",
    "rem": "int",
    "less": "truth",
    "same": "truth",
    "not": "truth",
    "size": "int",
    "sign": "int",
    "tell": "text",
    "is": "truth",
    "read": "int",
}


def taken(known, function, instruction):
    """The kinds of what an instruction takes, the topmost last; None for one that is_let looks at."""
    word = instruction[0]
    if word in TAKEN:
        return TAKEN[word]
    if word == "store":
        return (slot_kinds(function)[instruction[1]],)
    if word == "done":
        return () if function[2] is None else (function[2],)
    if word == "call":
        return known.meant(instruction)[1]
    thing = ("of", instruction[1])
    if word == "ask":
        # A method of a class above has that class as its first param: the ask's own one is wanted.
        return (thing,) + known.meant(instruction)[1][1:]
    if word == "get":
        return (thing,)
    return (thing, known.family.field_kind(instruction[1], instruction[2]))


def puts(known, instruction):
    """How many values an instruction puts on the stack."""
    word = instruction[0]
    if word in PUTS_NONE:
        return 0
    if word == "call" or word == "ask":
        return 0 if known.meant(instruction)[2] is None else 1
    return 2 if word == "twin" else 1


def put(known, function, instruction, kinds):
    """The kinds of what an instruction puts on a stack of these kinds; None if it never gets so far."""
    word = instruction[0]
    if word in PUTS_NONE:
        return ()
    if word in PUT:
        return (PUT[word],)
    if word == "twin":
        return (kinds[-1], kinds[-1])
    if word == "at" and kinds[-2] == NIL:
        return None
    kind = kind_put(known, function, instruction, kinds)
    return () if kind is None else (kind,)


def kind_put(known, function, instruction, kinds):
    """The kind of the one value that is put; None for a function without a result."""
    word = instruction[0]
    if word == "load":
        return slot_kinds(function)[instruction[1]]
    if word == "add":
        return sum_kind(kinds[-1])
    if word == "at":
        entry = entry_of(kinds[-2])
        return MIXED if entry is None else entry
    if word == "new" or word == "as":
        return ("of", instruction[1])
    if word == "get":
        return known.family.field_kind(instruction[1], instruction[2])
    if word == "row":
        return ("row", instruction[1])
    return known.meant(instruction)[2]


def sum_kind(kind):
    """What add comes to, by the kind of its topmost value."""
    if kind == "text" or kind == NIL:
        return "text"
    return "int" if kind == "int" else MIXED


def are_let(known, function, instruction, kinds):
    """Whether an instruction may take its values from a stack of these kinds."""
    wanted = taken(known, function, instruction)
    first = len(kinds) - len(wanted)
    for kind, other in zip(kinds[first:], wanted):
        if other is not None and not known.family.fits(kind, other):
            return False
    if instruction[0] not in LETTING:
        return True
    is_let = LETTING[instruction[0]]
    return is_let(known.family, instruction, kinds[first:])


def is_let_add(family, instruction, kinds):
    first, second = kinds
    if first == "int":
        return second == "int"
    return family.fits(first, "text") and family.fits(second, "text")


def is_let_same(family, instruction, kinds):
    first, second = kinds
    if is_reference(first):
        return family.may_be_same(first, second)
    return first != MIXED and first == second


def is_let_at(family, instruction, kinds):
    return kinds[0] == NIL or entry_of(kinds[0]) is not None


def is_let_set(family, instruction, kinds):
    """What is no row, and a nil one too, has no entries' kind that anything fits."""
    return family.fits(kinds[2], entry_of(kinds[0]))


def is_let_size(family, instruction, kinds):
    return kinds[0] == "text" or kinds[0] == NIL or entry_of(kinds[0]) is not None


def is_let_line(family, instruction, kinds):
    """An is or as: an object of the class's line."""
    return family.may_be_of(kinds[0], instruction[1])


def is_let_throw(family, instruction, kinds):
    return kinds[0] == NIL or class_of(kinds[0]) is not None


def is_let_show(family, instruction, kinds):
    return kinds[0] in ("int", "truth", "text", NIL)


LETTING = {
    "add": is_let_add,
    "same": is_let_same,
    "at": is_let_at,
    "set": is_let_set,
    "size": is_let_size,
    "is": is_let_line,
    "as": is_let_line,
    "throw": is_let_throw,
    "show": is_let_show,
}
