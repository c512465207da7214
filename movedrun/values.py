"""Values of runs: the things that a run makes, and what it reckons with ints, texts and rows.

An int and a truth are themselves, nil is None, all else is a Thing.
"""

from movedrun.errors import BadCount, BadGiven
from movedrun.forms import GREATEST_INT, LEAST_INT, is_between, is_tuple_to

MOST_GIVEN = 1000
MOST_BEATS = 1000000
MOST_ENTRIES = 1000
MOST_SIGNS = 200
# Calls within one another, that of main among them.
MOST_CALLS = 200


class Fault(Exception):
    """A run comes to a fault and ends."""

    def __init__(self, word):
        super().__init__(f"the run ends by a fault: {word}")
        self.word = word


class Spent(Exception):
    """A run would make one beat more than it may."""


class Thing:
    """An object, a row or a text.

    Its slots are a dict of fields, a list of entries, or a str. There is no __eq__: so == of two values
    is true for one and the same thing alone, just as = of the language.
    """

    def __init__(self, kind, slots):
        self.kind = kind
        self.slots = slots


def look_at_given(given):
    """BadGiven for what is no input of a run."""
    if not is_tuple_to(given, MOST_GIVEN):
        raise BadGiven("this is no tuple of at most a thousand ints")
    for number in given:
        if not is_between(number, LEAST_INT, GREATEST_INT):
            raise BadGiven("this is no tuple of ints of 32 bits")


def look_at_count(count):
    """BadCount for what is no number of beats."""
    if not is_between(count, 0, MOST_BEATS):
        raise BadCount("this is no integer from 0 to 1,000,000")


def blank(kind):
    """What a field or an entry of a kind holds at first."""
    if kind == "int":
        return 0
    if kind == "truth":
        return False
    return None


def wrapped(number):
    """The int of 32 bits that a number wraps round to."""
    return (number + 2 ** 31) % 2 ** 32 - 2 ** 31


def total(first, second):
    """The sum of two ints, or a new text of two."""
    if isinstance(first, int):
        return wrapped(first + second)
    return joined(first, second)


def joined(first, second):
    if first is None or second is None:
        raise Fault("nil")
    signs = first.slots + second.slots
    if len(signs) > MOST_SIGNS:
        raise Fault("size")
    return Thing("text", signs)


def difference(first, second):
    return wrapped(first - second)


def multiple(first, second):
    return wrapped(first * second)


def quotient(first, second):
    """Cut towards 0, which // does not do below 0."""
    if second == 0:
        raise Fault("zero")
    found = abs(first) // abs(second)
    return wrapped(found if (first < 0) == (second < 0) else -found)


def rest(first, second):
    """With the sign of the first."""
    if second == 0:
        raise Fault("zero")
    found = abs(first) % abs(second)
    return -found if first < 0 else found


def is_less(first, second):
    return first < second


def is_same(first, second):
    return first == second


def slots_of(thing):
    if thing is None:
        raise Fault("nil")
    return thing.slots


def look_at_entry(slots, index):
    if not 0 <= index < len(slots):
        raise Fault("index")


def entry_at(row, index):
    slots = slots_of(row)
    look_at_entry(slots, index)
    return slots[index]


def set_entry(row, index, value):
    slots = slots_of(row)
    look_at_entry(slots, index)
    slots[index] = value


def sign_at(text, index):
    """A sign's code."""
    slots = slots_of(text)
    look_at_entry(slots, index)
    return ord(slots[index])


def size_of(thing):
    return len(slots_of(thing))


def new_text(signs):
    return Thing("text", signs)


def told_text(number):
    return Thing("text", str(number))


def new_row(kind, number):
    if not 0 <= number <= MOST_ENTRIES:
        raise Fault("size")
    return Thing(("row", kind), [blank(kind)] * number)


def shown(value):
    """What a run's output has of a value that is shown."""
    if isinstance(value, int):
        return value
    return slots_of(value)


class Classes:
    """What runs need to know of classes, gathered once: above whom each is, and its fields."""

    def __init__(self, family, names):
        self.lines = {}
        self.fields = {}
        for name in names:
            line = family.line(name)
            self.lines[name] = {each[0]: True for each in line}
            # Those of the class above first.
            self.fields[name] = [field for each in line[::-1] for field in each[2]]

    def new(self, name):
        return Thing(("of", name), {field: blank(kind) for field, kind in self.fields[name]})

    def is_of(self, thing, name):
        """Whether an object is of the class or of one below it."""
        return name in self.lines[thing.kind[1]]

    def cast(self, thing, name):
        if thing is not None and not self.is_of(thing, name):
            raise Fault("cast")
        return thing
