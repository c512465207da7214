"""What the machine does for each deed of a strip's row: with a run, its innermost frame, and the row at which that is.

Where a row goes out, nothing of its instruction was done: the slow machine does it.
"""

from movedrun.striprows import value_of_source
from movedrun.values import MOST_ENTRIES, MOST_SIGNS, Fault


def do_work(run, frame, row):
    if row.op.is_anchor:
        if is_sure_to_fault(run, row.op, row.operand_values(frame.registers)):
            run.go_out()
            return
        if run.meets_deed():
            return
    rule = row.op.work
    try:
        found = rule(run, row.op.borne, row.operand_values(frame.registers))
    except Fault:
        run.go_out()
        return
    if row.borne is not None:
        frame.registers[row.borne] = found
    frame.row = row.behind


def is_sure_to_fault(run, op, operands):
    """Whether what makes something is a fault: it must be known ahead of the deed of the schedule."""
    if op.word == "row":
        return not 0 <= operands[0] <= MOST_ENTRIES
    if op.word != "add":
        return False
    first, second = operands
    return first is None or second is None or run.store.size(first) + run.store.size(second) > MOST_SIGNS


def do_if(run, frame, row):
    goes = row.operand_values(frame.registers)[0]
    if row.op.is_anchor:
        if goes:
            run.look_at_bound()
        if run.meets_deed():
            return
        if goes:
            run.beat()
    frame.row = row.behind[1] if goes else row.behind[0]


def do_beat(run, frame, row):
    run.look_at_bound()
    if run.meets_deed():
        return
    run.beat()
    frame.row = row.behind


def do_call(run, frame, row):
    is_ask = row.op.word == "ask"
    if run.is_full() or (is_ask and row.operand_values(frame.registers)[0] is None):
        run.go_out()
        return
    run.look_at_bound()
    if run.meets_deed():
        return
    run.beat()
    args = row.operand_values(frame.registers)
    index = row.op.borne
    if is_ask:
        name = run.store.class_of(args[0])
        run.receivers[row.function, row.place] = name
        index = index[name]
    run.begin(index, args)


def do_guard(run, frame, row):
    thing = row.operand_values(frame.registers)[0]
    if thing is None or run.store.class_of(thing) != row.borne:
        run.go_out()
    else:
        frame.row = row.behind


def do_enter(run, frame, row):
    if run.is_full():
        run.go_out()
        return
    run.look_at_bound()
    if run.meets_deed():
        return
    run.beat()
    run.opened += 1
    if row.op.word == "ask":
        run.receivers[row.function, row.place] = row.receiver_class()
    frame.row = row.behind


def do_leave(run, frame, row):
    run.opened -= 1
    frame.row = row.behind


def do_done(run, frame, row):
    run.leave(row.operand_values(frame.registers))


def do_moves(run, frame, row):
    """All at once: what a register gets may be what another one has until now."""
    values = [value_of_source(source, frame.registers) for _, source in row.borne]
    for pair, value in zip(row.borne, values):
        frame.registers[pair[0]] = value
    frame.row = row.behind


def do_out(run, frame, row):
    run.go_out()


ROW_ACTIONS = {
    "do": do_work,
    "if": do_if,
    "beat": do_beat,
    "call": do_call,
    "guard": do_guard,
    "enter": do_enter,
    "leave": do_leave,
    "done": do_done,
    "moves": do_moves,
    "out": do_out,
}
