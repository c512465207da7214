"""A run of a program, straight by its statements and expressions."""

from movedrun.doings import BEGINNINGS
from movedrun.family import Family
from movedrun.values import MOST_CALLS, Classes, Fault, Spent


class Frame:
    """A call that is not done: told is the function's name as faults tell it."""

    def __init__(self, told, names, body):
        self.told = told
        self.names = names
        self.tasks = []
        # Between statements it is empty.
        self.stack = []
        # The tries whose first block is being done, each with how many tasks there were ahead of it.
        self.tries = []
        self.add_block(body)

    def plan(self, rule, node):
        self.tasks.append((rule, node))

    def add_node(self, node):
        self.tasks.append((BEGINNINGS[node[0]], node))

    def add_block(self, block):
        for statement in block[::-1]:
            self.add_node(statement)

    def take(self):
        return self.stack.pop()

    def give(self, value):
        self.stack.append(value)

    def take_last(self, many):
        """The topmost values, the lowest of them first."""
        first = len(self.stack) - many
        found = self.stack[first:]
        del self.stack[first:]
        return found


class Walk:
    """A run: its frames, main's first, and what it has used of its input and its beats."""

    def __init__(self, program, given, bound):
        classes, functions = program
        family = Family(classes)
        names = [each[0] for each in classes]
        self.classes = Classes(family, names)
        self.functions = {function[0]: function for function in functions}
        self.methods = methods_by_class(family, names)
        self.given = given
        self.used = 0
        self.beats = bound
        self.shown = []
        self.frames = [Frame("main", {}, self.functions["main"][3])]

    def beat(self):
        if self.beats == 0:
            raise Spent("no beat is left")
        self.beats -= 1

    def begin_call(self, told, params, args, body, names):
        """names has self already, where it is a method that is called."""
        self.beat()
        if len(self.frames) == MOST_CALLS:
            raise Fault("deep")
        for (name, _), value in zip(params, args):
            names[name] = value
        self.frames.append(Frame(told, names, body))

    def run(self):
        """The word of the run's end, and what is told with it."""
        try:
            while self.frames:
                self.step()
        except Fault as fault:
            return ("fault", (fault.word, self.frames[-1].told))
        except Spent:
            return ("spent", "")
        return ("end", "")

    def step(self):
        frame = self.frames[-1]
        if frame.tasks:
            rule, node = frame.tasks.pop()
            rule(self, frame, node)
        else:
            self.frames.pop()


def methods_by_class(family, names):
    """The methods of all classes: (class, method) to (name as faults tell it, method)."""
    found = {}
    for name in names:
        for each in family.line(name):
            for method in each[3]:
                found.setdefault((name, method[0]), (each[0] + "." + method[0], method))
    return found
