"""What a run does for each statement and expression.

A frame keeps what it has still to do as a pile of tasks, so that calls within calls need no deep recursion.
A task is a rule and the node that it is for; what an expression comes to is put on the frame's stack.
"""

from movedrun.values import (
    Fault, difference, entry_at, is_less, is_same, multiple, new_row, new_text, quotient, rest, set_entry, shown,
    sign_at, size_of, slots_of, told_text, total
)


def begin_var(walk, frame, node):
    frame.plan(behind_var, node)
    frame.add_node(node[3])


def behind_var(walk, frame, node):
    frame.names[node[1]] = frame.take()


def begin_set(walk, frame, node):
    frame.plan(behind_var, node)
    frame.add_node(node[2])


def begin_put(walk, frame, node):
    frame.plan(behind_put, node)
    frame.add_node(node[3])
    frame.add_node(node[1])


def behind_put(walk, frame, node):
    value = frame.take()
    slots_of(frame.take())[node[2]] = value


def begin_place(walk, frame, node):
    frame.plan(behind_place, node)
    for part in (node[3], node[2], node[1]):
        frame.add_node(part)


def behind_place(walk, frame, node):
    row, index, value = frame.take_last(3)
    set_entry(row, index, value)


def begin_test(walk, frame, node):
    """An if, or one more time of a while."""
    frame.plan(behind_test, node)
    frame.add_node(node[1])


def behind_test(walk, frame, node):
    if node[0] == "if":
        frame.add_block(node[2] if frame.take() else node[3])
    elif frame.take():
        frame.plan(end_while_block, node)
        frame.add_block(node[2])


def end_while_block(walk, frame, node):
    walk.beat()
    begin_test(walk, frame, node)


def begin_return(walk, frame, node):
    if node[1] is None:
        walk.frames.pop()
    else:
        frame.plan(behind_return, node)
        frame.add_node(node[1])


def behind_return(walk, frame, node):
    walk.frames.pop()
    walk.frames[-1].give(frame.take())


def begin_throw(walk, frame, node):
    frame.plan(behind_throw, node)
    frame.add_node(node[1])


def behind_throw(walk, frame, node):
    thing = frame.take()
    if thing is None:
        raise Fault("nil")
    for many in range(len(walk.frames), 0, -1):
        if is_caught(walk, walk.frames[many - 1], thing):
            del walk.frames[many:]
            return
    raise Fault("thrown")


def is_caught(walk, frame, thing):
    """Goes on in the innermost try of a frame that catches the thing, if one does."""
    while frame.tries:
        node, ahead = frame.tries.pop()
        if walk.classes.is_of(thing, node[3]):
            del frame.tasks[ahead:]
            del frame.stack[:]
            frame.names[node[2]] = thing
            frame.add_block(node[4])
            return True
    return False


def begin_try(walk, frame, node):
    frame.tries.append((node, len(frame.tasks)))
    frame.plan(end_try_block, node)
    frame.add_block(node[1])


def end_try_block(walk, frame, node):
    frame.tries.pop()


def begin_show(walk, frame, node):
    frame.plan(behind_show, node)
    frame.add_node(node[1])


def behind_show(walk, frame, node):
    walk.shown.append(shown(frame.take()))


def begin_do(walk, frame, node):
    frame.plan(behind_do, node)
    frame.add_node(node[1])


def behind_do(walk, frame, node):
    # There may be no result at all.
    del frame.stack[:]


def do_number_or_truth(walk, frame, node):
    frame.give(node[1])


def do_text(walk, frame, node):
    frame.give(new_text(node[1]))


def do_nil(walk, frame, node):
    frame.give(None)


def do_name(walk, frame, node):
    frame.give(frame.names[node[1]])


def begin_get(walk, frame, node):
    frame.plan(behind_get, node)
    frame.add_node(node[1])


def behind_get(walk, frame, node):
    frame.give(slots_of(frame.take())[node[2]])


def begin_two(walk, frame, node):
    """An at or sign: both sides, the first one first."""
    frame.plan(behind_two, node)
    frame.add_node(node[2])
    frame.add_node(node[1])


def behind_two(walk, frame, node):
    first, index = frame.take_last(2)
    frame.give(entry_at(first, index) if node[0] == "at" else sign_at(first, index))


def begin_call(walk, frame, node):
    frame.plan(behind_call, node)
    for part in node[2][::-1]:
        frame.add_node(part)


def behind_call(walk, frame, node):
    _, name, args = node
    _, params, _, body = walk.functions[name]
    walk.begin_call(name, params, frame.take_last(len(args)), body, {})


def begin_ask(walk, frame, node):
    frame.plan(behind_ask, node)
    for part in node[3][::-1]:
        frame.add_node(part)
    frame.add_node(node[1])


def behind_ask(walk, frame, node):
    args = frame.take_last(len(node[3]))
    thing = frame.take()
    if thing is None:
        raise Fault("nil")
    told, method = walk.methods[thing.kind[1], node[2]]
    walk.begin_call(told, method[1], args, method[3], {"self": thing})


def do_new(walk, frame, node):
    frame.give(walk.classes.new(node[1]))


def begin_row(walk, frame, node):
    frame.plan(behind_row, node)
    frame.add_node(node[2])


def behind_row(walk, frame, node):
    frame.give(new_row(node[1], frame.take()))


def begin_op(walk, frame, node):
    _, sign, first, second = node
    if sign == "and" or sign == "or":
        frame.plan(behind_first_side, node)
    else:
        frame.plan(behind_op, node)
        frame.add_node(second)
    frame.add_node(first)


def behind_first_side(walk, frame, node):
    first = frame.take()
    if first == (node[1] == "or"):
        frame.give(first)
    else:
        frame.add_node(node[3])


def behind_op(walk, frame, node):
    first, second = frame.take_last(2)
    reckon = SIGNS[node[1]]
    frame.give(reckon(first, second))


def begin_one(walk, frame, node):
    """A word with one part that is an expression."""
    frame.plan(BEHIND_ONE[node[0]], node)
    frame.add_node(node[1])


def behind_not(walk, frame, node):
    frame.give(not frame.take())


def behind_is(walk, frame, node):
    thing = frame.take()
    frame.give(thing is not None and walk.classes.is_of(thing, node[2]))


def behind_as(walk, frame, node):
    frame.give(walk.classes.cast(frame.take(), node[2]))


def behind_size(walk, frame, node):
    frame.give(size_of(frame.take()))


def behind_tell(walk, frame, node):
    frame.give(told_text(frame.take()))


def do_read(walk, frame, node):
    if walk.used == len(walk.given):
        raise Fault("dry")
    walk.used += 1
    frame.give(walk.given[walk.used - 1])


SIGNS = {
    "+": total,
    "-": difference,
    "*": multiple,
    "/": quotient,
    "rem": rest,
    "<": is_less,
    "=": is_same,
}

BEHIND_ONE = {
    "not": behind_not,
    "is": behind_is,
    "as": behind_as,
    "size": behind_size,
    "tell": behind_tell,
}

BEGINNINGS = {
    "var": begin_var,
    "set": begin_set,
    "put": begin_put,
    "place": begin_place,
    "if": begin_test,
    "while": begin_test,
    "return": begin_return,
    "throw": begin_throw,
    "try": begin_try,
    "show": begin_show,
    "do": begin_do,
    "int": do_number_or_truth,
    "truth": do_number_or_truth,
    "text": do_text,
    "nil": do_nil,
    "name": do_name,
    "get": begin_get,
    "at": begin_two,
    "call": begin_call,
    "ask": begin_ask,
    "new": do_new,
    "row": begin_row,
    "op": begin_op,
    "not": begin_one,
    "is": begin_one,
    "as": begin_one,
    "size": begin_one,
    "sign": begin_two,
    "tell": begin_one,
    "read": do_read,
}
