"""Shapes, sizes, kinds and heads: what heaps of either sort, and those who judge them, look at."""

from movedrun.errors import BadKind, BadRoots, BadShapes, BadSize, BadSizes
from movedrun.forms import is_between, is_integer, is_tuple_of, is_tuple_to
from movedrun.values import MOST_ENTRIES

# Kinds that are no number of a class.
PLAIN_ROW = -1
LINK_ROW = -2
SIGNS = -3

WHITE = 0
GREY = 1
BLACK = 2

# An object's first word tells its kind, age and colour, its second one how many slots it has.
HEAD_WORDS = 2

MOST_SHAPES = 60
MOST_SHAPE_FIELDS = 100
LEAST_NURSERY = 16
MOST_ROOM = 4096
LEAST_GREAT = 4
MOST_AGE = 7
MOST_ROOTS = 40000
MOST_SLICE = 1000000


def look_at_shapes(shapes):
    if not is_tuple_to(shapes, MOST_SHAPES):
        raise BadShapes("this is no tuple of at most sixty shapes")
    for shape in shapes:
        if not is_tuple_to(shape, MOST_SHAPE_FIELDS):
            raise BadShapes("a shape is a tuple of at most a hundred truths")
        for truth in shape:
            if not isinstance(truth, bool):
                raise BadShapes("a shape has truths alone")


def look_at_sizes(sizes):
    if not is_tuple_of(sizes, 4):
        raise BadSizes("this is no tuple of four integers")
    nursery, half, great, age = sizes
    if not is_between(nursery, LEAST_NURSERY, MOST_ROOM) or not is_between(half, 0, MOST_ROOM):
        raise BadSizes("a nursery has 16 to 4,096 words, a half at most so many")
    if not is_between(great, LEAST_GREAT, nursery) or not is_between(age, 1, MOST_AGE):
        raise BadSizes("great is from 4 to the nursery's words, the age from 1 to 7")


def look_at_kind(shapes, kind):
    if not is_between(kind, SIGNS, len(shapes) - 1):
        raise BadKind("this is no kind of an object")


def look_at_size(shapes, kind, slots):
    if not is_integer(slots) or not is_size(shapes, kind, slots):
        raise BadSize("this is no number of slots for an object of the kind")


def is_size(shapes, kind, slots):
    """Whether an object of the kind may have so many slots."""
    if kind >= 0:
        return slots == len(shapes[kind])
    return 0 <= slots <= MOST_ENTRIES


def look_at_roots(roots, holder):
    if not are_roots(roots, holder):
        raise BadRoots("this is no tuple of at most 40,000 objects of the heap, or 0")


def are_roots(roots, holder):
    """Whether this is a tuple of roots; the holder tells of an integer whether it is an object's."""
    if not is_tuple_to(roots, MOST_ROOTS):
        return False
    for root in roots:
        # True and False are no integers, though they are equal to 1 and 0.
        if not is_integer(root) or (root != 0 and not holder.is_object(root)):
            return False
    return True


def shape_links(shape):
    """The indexes of a class's reference slots."""
    return tuple([index for index, truth in enumerate(shape) if truth])


def is_link(shapes, kind, slot):
    """Whether this slot of an object of the kind is a reference slot."""
    return shapes[kind][slot] if kind >= 0 else kind == LINK_ROW


def head_word(kind, age, colour):
    return (kind + 3) * 64 + age * 4 + colour


def kind_told(head):
    return head // 64 - 3


def age_told(head):
    return head // 4 % 16


def colour_told(head):
    return head % 4
