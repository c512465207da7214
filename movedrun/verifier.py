"""Verified modules: what is wrong first, if anything is, and what is known of each place of their code."""

from movedrun.errors import BadIndex, BadModule, NotVerified
from movedrun.forms import is_between
from movedrun.headlook import look_at_heads
from movedrun.heightlook import Heights
from movedrun.indexlook import look_at_indexes
from movedrun.kindlook import Kinds
from movedrun.known import Known
from movedrun.modules import is_module
from movedrun.setlook import SetSlots


def verify(module):
    """None, or the first thing wrong as (word, function's index or None, place or None)."""
    try:
        verified(module)
    except NotVerified as wrong:
        return wrong.what
    return None


def verified(module):
    """Raises NotVerified for a module that is not right; returns what is known of one that is."""
    if not is_module(module):
        raise BadModule("this is no module")
    known = Known(module)
    look_at_heads(known)
    for index in range(len(known.functions)):
        look_at_indexes(known, index)
        # Each one needs what the ones ahead of it have let by.
        Heights(known, index).look()
        look_at_values(known, index)
    return known


def look_at_values(known, index):
    """Keeps the kinds and the set locals that are found: runs ask for them."""
    kinds = Kinds(known, index)
    kinds.look()
    sets = SetSlots(known, index)
    sets.look()
    known.kinds.append(kinds.table())
    known.sets.append(sets.table_beside(kinds.told))


def verified_with(module, index):
    """The same, and BadIndex for what is no index of a function of it."""
    known = verified(module)
    if not is_between(index, 0, len(known.functions) - 1):
        raise BadIndex("this is no index of a function")
    return known


def heights(module, index):
    """How many values lie on the stack at each place, None where it cannot be come to."""
    known = verified_with(module, index)
    return Heights(known, index).table()


def stack_kinds(module, index):
    """The kinds of the values on the stack at each place, None where there are none."""
    return verified_with(module, index).kinds[index]


def set_locals(module, index):
    """The params and locals that are set at each place, None where stack_kinds has None."""
    return verified_with(module, index).sets[index]
