"""Plain runs of modules, what they hold, and what calls what."""

from movedrun.errors import BadGraph
from movedrun.graphforms import are_equal, is_graph
from movedrun.graphs import graph_of
from movedrun.ops import Codes
from movedrun.runs import Run
from movedrun.things import ThingStore
from movedrun.values import look_at_count, look_at_given
from movedrun.verifier import verified

# What each thing takes on the heap ahead of its slots.
HEAD_WORDS = 2


def run_plain(module, given, bound):
    """(word, told, shown): how a run with this input ends that may make so many beats, and what it shows."""
    return looked_at(module, given, bound).outcome(bound)


def looked_at(module, given, count):
    """A run that has not begun, of arguments that are right."""
    known = verified(module)
    look_at_given(given)
    look_at_count(count)
    return plain_run(known, given)


def plain_run(known, given):
    run = Run(known, Codes(known), given)
    run.store = ThingStore(known)
    return run


def frames_at(module, given, beats):
    """The graph behind so many beats, as the next one is about to be made; None if it does not come to that."""
    run = looked_at(module, given, beats)
    run.outcome(beats)
    return graph_now(run)


def graph_now(run):
    """The graph of a run that stands ahead of a beat, None if it has ended."""
    return None if run.end is not None else graph_of(run.known, run.frames, run.store)


def same_graph(graph, other):
    """Whether two graphs are equal, True being no 1."""
    look_at_graph(graph)
    look_at_graph(other)
    return are_equal(graph, other)


def graph_size(graph):
    """How many words the things of a graph take on the heap."""
    look_at_graph(graph)
    return sum([HEAD_WORDS + len(thing[-1]) for thing in graph[1]])


def look_at_graph(thing):
    """BadGraph for what has not the form of a graph."""
    if not is_graph(thing):
        raise BadGraph("this is no graph")


def calls_of(module):
    """The ascending list of (function, function) of which the first one can begin the second."""
    return calls_known(verified(module))


def calls_known(known):
    pairs = {}
    for index, function in enumerate(known.functions):
        for instruction in function[4]:
            if instruction[0] == "call" or instruction[0] == "ask":
                for callee in known.callees(instruction):
                    pairs[index, callee] = True
    return sorted(list(pairs))


def reached_from_main(module):
    """The ascending tuple of the functions that main comes to by calls and asks, main among them."""
    known = verified(module)
    callees = {}
    for caller, callee in calls_known(known):
        callees.setdefault(caller, []).append(callee)
    found = {known.main: True}
    waiting = [known.main]
    while waiting:
        for callee in callees.get(waiting.pop(), []):
            if callee not in found:
                found[callee] = True
                waiting.append(callee)
    return tuple(sorted(list(found)))


def counts(module, given, bound):
    """How often each function was begun."""
    run = looked_at(module, given, bound)
    run.outcome(bound)
    return tuple(run.begun)


def made(module, given, bound):
    """The ascending list of (word, how many were made): a class's name, "row" or "text"."""
    run = looked_at(module, given, bound)
    run.outcome(bound)
    return sorted([(word, many) for word, many in run.store.made.items()])
