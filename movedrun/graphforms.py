"""The form of graphs, and whether two are equal."""

from movedrun.effects import MIXED
from movedrun.forms import (
    GREATEST_INT, LEAST_INT, MOST_ROWS, is_between, is_integer, is_kind, is_name, is_signs, is_tuple_of
)
from movedrun.graphs import UNSET


def is_graph(thing):
    if not is_tuple_of(thing, 2) or not isinstance(thing[0], tuple) or not isinstance(thing[1], tuple):
        return False
    frames, things = thing
    for frame in frames:
        if not is_frame(frame, len(things)):
            return False
    for each in things:
        if not is_thing(each, len(things)):
            return False
    return True


def is_frame(frame, many):
    """Whether this is the form of a frame beside so many things."""
    if not is_tuple_of(frame, 4):
        return False
    function, place, slots, stack = frame
    if not is_integer(function) or function < 0 or not is_integer(place) or place < 0:
        return False
    return are_values(slots, many, UNSET) and are_values(stack, many, MIXED)


def are_values(things, many, word):
    """Whether this is a tuple of values, or of this word in their place; None for no word."""
    if not isinstance(things, tuple):
        return False
    for thing in things:
        if isinstance(thing, str):
            if word is None or thing != word:
                return False
        elif not is_value(thing, many):
            return False
    return True


def is_value(thing, many):
    if thing is None or isinstance(thing, bool):
        return True
    if isinstance(thing, int):
        return LEAST_INT <= thing <= GREATEST_INT
    if not is_tuple_of(thing, 2) or not isinstance(thing[0], str):
        return False
    return thing[0] == "thing" and is_between(thing[1], 0, many - 1)


def is_thing(thing, many):
    if not isinstance(thing, tuple) or thing == () or not isinstance(thing[0], str):
        return False
    if thing[0] == "text":
        return len(thing) == 2 and is_signs(thing[1])
    if len(thing) != 3:
        return False
    if thing[0] == "of":
        return is_name(thing[1]) and are_values(thing[2], many, None)
    return thing[0] == "row" and is_kind(thing[1], MOST_ROWS) and are_values(thing[2], many, None)


def are_equal(one, other):
    """Whether two plain values are equal at every depth, True being no 1."""
    if isinstance(one, tuple) and isinstance(other, tuple):
        return len(one) == len(other) and are_equal_all(one, other)
    return one == other and isinstance(one, bool) == isinstance(other, bool)


def are_equal_all(ones, others):
    for one, other in zip(ones, others):
        if not are_equal(one, other):
            return False
    return True
