"""The machine: a module's runs on the heap that moves, in tiers, under a schedule."""

from movedrun.errors import BadCount, BadIndex, BadSchedule, BadStrip
from movedrun.forms import is_between, is_tuple_to
from movedrun.graphforms import are_equal
from movedrun.heapforms import look_at_sizes
from movedrun.heaps import Heap, copy_of_heap
from movedrun.known import Known
from movedrun.ops import Codes
from movedrun.plain import graph_now, plain_run
from movedrun.striplook import StripLook
from movedrun.tiers import TieredRun, copy_of_run
from movedrun.values import look_at_count, look_at_given
from movedrun.verifier import verified
from movedrun.wordstore import shapes_of

MOST_DEEDS = 200
GREATEST_DEED = 9
MOST_HELD = 10
# Of the beats of a run that is looked at.
MOST_LOOKS = 100


def look_at_schedule(schedule):
    if not is_tuple_to(schedule, MOST_DEEDS):
        raise BadSchedule("this is no tuple of at most two hundred deeds")
    for deed in schedule:
        if not is_between(deed, 0, GREATEST_DEED):
            raise BadSchedule("a deed is an integer from 0 to 9")


class Machine:
    """A verified module with an input, sizes of a heap and a schedule of deeds."""

    def __init__(self, module, given, sizes, schedule):
        # A copy hands in what is known of its module already.
        known = module if isinstance(module, Known) else verified(module)
        look_at_given(given)
        look_at_sizes(sizes)
        look_at_schedule(schedule)
        self.inner = TieredRun(known, Codes(known), given, Heap(shapes_of(known), sizes), schedule)

    def run(self, bound):
        """(word, told, shown): how the run goes with so many beats in all; it goes on from where it stands."""
        look_at_count(bound)
        if bound < self.inner.beats:
            raise BadCount("so many beats were made already")
        return self.inner.outcome(bound)

    def tiers(self):
        """(function, number of rows) of the strips that are held."""
        return tuple(sorted([(index, len(strip.rows)) for index, strip in self.inner.strips.items()]))

    def went_out(self):
        """How many times a strip's frames were laid as slow ones."""
        return self.inner.outs

    def went_up(self):
        """How many times a slow frame went on in a strip, or a call or main began in one."""
        return self.inner.ups

    def beats(self):
        return self.inner.beats

    def graph(self):
        """What the frames hold, and all that can be come to from there; None behind the end."""
        return self.inner.graph()

    def collected(self):
        """How many minor, settling and whole collections have ended."""
        return tuple(self.inner.heap.memory.ended)

    def heap(self):
        """The picture of the heap."""
        return self.inner.heap.picture()

    def unreached(self):
        """How many objects of the heap are not among the things of the graph."""
        graph = self.inner.graph()
        objects = sum(self.inner.heap.counts()[3:])
        return objects if graph is None else objects - len(graph[1])

    def hold(self, strip):
        """Lets the machine hold a strip, in the place of one that its function has."""
        if not StripLook(self.inner.known, self.inner.codes).holds(strip):
            raise BadStrip("this is no strip that is right for the module")
        self.inner.strips[strip[0]] = self.inner.ready_strip(strip)

    def forget(self, function):
        """A function has no strip any more; frames that are in it stay there."""
        if not is_between(function, 0, len(self.inner.known.functions) - 1):
            raise BadIndex("this is no index of a function")
        if function in self.inner.strips:
            del self.inner.strips[function]

    def minor(self):
        self.inner.minor()

    def settle(self):
        self.inner.settle()

    def slice(self, count):
        self.inner.slice(count)

    def whole(self):
        self.inner.whole()

    def out(self):
        """The innermost strip goes out, if the innermost frame is one's."""
        self.inner.out()

    def copy(self):
        """An equal machine that goes its own way."""
        run = self.inner
        other = Machine(run.known, run.given, run.heap.memory.sizes, run.schedule)
        other.inner = copy_of_run(run, copy_of_heap(run.heap))
        return other


def runs_alike(module, given, bound, sizes, schedule, strips):
    """None if the machine does as the plain one does; else (beats, word)."""
    machine = held_machine(module, given, bound, sizes, schedule, strips)
    plain = plain_run(machine.inner.known, given)
    for beats in looked_at_beats(bound):
        machine.run(beats)
        plain.outcome(beats)
        if not are_equal(machine.graph(), graph_now(plain)):
            return (beats, "graph")
    if not are_equal(machine.run(bound), plain.outcome(bound)):
        return (bound, "outcome")
    return None


def outlived(module, given, bound, sizes, schedule, strips):
    """The greatest number of objects that are not reached, but outlive two whole collections."""
    machine = held_machine(module, given, bound, sizes, schedule, strips)
    greatest = 0
    for beats in looked_at_beats(bound):
        machine.run(beats)
        other = machine.copy()
        other.whole()
        other.whole()
        greatest = max(greatest, other.unreached())
    return greatest


def held_machine(module, given, bound, sizes, schedule, strips):
    """A machine that holds these strips, of arguments that are right."""
    known = verified(module)
    look_at_given(given)
    look_at_count(bound)
    machine = Machine(known, given, sizes, schedule)
    if not is_tuple_to(strips, MOST_HELD):
        raise BadStrip("this is no tuple of at most ten strips")
    for strip in strips:
        machine.hold(strip)
    return machine


def looked_at_beats(bound):
    """The beats from 0 to the bound, a hundred of them at most, evenly taken."""
    if bound < MOST_LOOKS:
        return list(range(bound + 1))
    return [bound * look // (MOST_LOOKS - 1) for look in range(MOST_LOOKS)]
