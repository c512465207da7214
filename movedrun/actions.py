"""What the slow machine does for each instruction: with a run, its innermost frame, and the instruction there.

A beat is counted ahead of all else that an instruction does, so that a run that is spent stands right ahead of it.
"""

from movedrun.values import Fault


def push_constant(run, frame, op):
    frame.stack.append(op.borne)
    frame.place += 1


def load(run, frame, op):
    frame.stack.append(frame.slots[op.borne])
    frame.place += 1


def store(run, frame, op):
    frame.slots[op.borne] = frame.stack.pop()
    frame.place += 1


def drop(run, frame, op):
    frame.stack.pop()
    frame.place += 1


def twin(run, frame, op):
    frame.stack.append(frame.stack[-1])
    frame.place += 1


def jump(run, frame, op):
    if op.borne <= frame.place:
        run.beat()
    run.jump(frame, op.borne)


def jump_if(run, frame, op):
    if not frame.stack[-1]:
        frame.stack.pop()
        frame.place += 1
        return
    if op.borne <= frame.place:
        run.beat()
    frame.stack.pop()
    run.jump(frame, op.borne)


def call(run, frame, op):
    run.call(frame, op, op.borne)


def ask(run, frame, op):
    """Keeps of whose class the receiver was: tiers guess by it."""
    thing = frame.stack[-op.takes]
    if thing is None:
        raise Fault("nil")
    name = run.store.class_of(thing)
    asked = (frame.function, frame.place)
    run.call(frame, op, op.borne[name])
    run.receivers[asked] = name


def end_call(run, frame, op):
    run.leave(frame.stack[-op.takes:] if op.takes > 0 else [])


def throw(run, frame, op):
    thing = frame.stack[-1]
    if thing is None:
        raise Fault("nil")
    run.throw(thing)


def work(run, frame, op):
    """An instruction that only works on values."""
    operands = frame.take_last(op.takes)
    rule = op.work
    found = rule(run, op.borne, operands)
    if op.puts > 0:
        frame.stack.append(found)
    frame.place += 1


# All other words are works.
ACTIONS = {
    "int": push_constant,
    "truth": push_constant,
    "nil": push_constant,
    "load": load,
    "store": store,
    "drop": drop,
    "twin": twin,
    "jump": jump,
    "if": jump_if,
    "call": call,
    "ask": ask,
    "done": end_call,
    "throw": throw,
}
