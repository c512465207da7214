"""What the instructions do that only work on values: each is given its operands, the topmost last, and what it bears.

A fault comes ahead of all that an instruction does, so that one that would be a fault can be left to another tier.
"""

from movedrun.values import Fault, difference, is_less, is_same, multiple, quotient, rest, wrapped


def add_ints(run, borne, operands):
    return wrapped(operands[0] + operands[1])


def add_texts(run, borne, operands):
    return run.store.joined(operands[0], operands[1])


def subtract(run, borne, operands):
    return difference(operands[0], operands[1])


def multiply(run, borne, operands):
    return multiple(operands[0], operands[1])


def divide(run, borne, operands):
    return quotient(operands[0], operands[1])


def leave_rest(run, borne, operands):
    return rest(operands[0], operands[1])


def compare(run, borne, operands):
    return is_less(operands[0], operands[1])


def match_both(run, borne, operands):
    return is_same(operands[0], operands[1])


def negate(run, borne, operands):
    return not operands[0]


def make_text(run, borne, operands):
    return run.store.text(borne)


def tell(run, borne, operands):
    return run.store.text(str(operands[0]))


def make_object(run, borne, operands):
    return run.store.new(borne)


def make_row(run, borne, operands):
    return run.store.row(borne, operands[0])


def get_field(run, borne, operands):
    return run.store.field(operands[0], borne)


def put_field(run, borne, operands):
    run.store.set_field(operands[0], borne, operands[1])


def get_entry(run, borne, operands):
    return run.store.entry(operands[0], operands[1], borne)


def set_entry(run, borne, operands):
    run.store.set_entry(operands[0], operands[1], borne, operands[2])


def measure(run, borne, operands):
    return run.store.size(operands[0])


def get_sign(run, borne, operands):
    return run.store.sign(operands[0], operands[1])


def ask_class(run, borne, operands):
    thing = operands[0]
    return thing is not None and run.store.class_of(thing) in borne


def cast(run, borne, operands):
    thing = operands[0]
    if thing is not None and run.store.class_of(thing) not in borne:
        raise Fault("cast")
    return thing


def show(run, borne, operands):
    run.shown.append(operands[0])


def show_text(run, borne, operands):
    run.shown.append(run.store.signs(operands[0]))


def read(run, borne, operands):
    return run.take_given()


# An add and a show of texts are told by their kinds, not by their words.
WORKS = {
    "add": add_ints,
    "sub": subtract,
    "mul": multiply,
    "div": divide,
    "rem": leave_rest,
    "less": compare,
    "same": match_both,
    "not": negate,
    "text": make_text,
    "tell": tell,
    "new": make_object,
    "row": make_row,
    "get": get_field,
    "put": put_field,
    "at": get_entry,
    "set": set_entry,
    "size": measure,
    "sign": get_sign,
    "is": ask_class,
    "as": cast,
    "show": show,
    "read": read,
}
