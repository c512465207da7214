"""What a program means, told a second time and as straight as can be: by calls within calls.

It counts, too, how often each statement and expression of a body began.
"""

import sys
from collections import Counter

# Two hundred calls, each within a chain of twenty statements and expressions, need many of Python's own.
sys.setrecursionlimit(40000)

PARTS = {"var": (3,), "set": (2,), "put": (1, 3), "place": (1, 2, 3), "if": (1, 2, 3), "while": (1, 2), "return": (1,),
         "throw": (1,), "try": (1, 4), "show": (1,), "do": (1,), "get": (1,), "at": (1, 2), "call": (2,), "ask": (1, 3),
         "row": (2,), "op": (2, 3), "not": (1,), "is": (1,), "as": (1,), "size": (1,), "sign": (1, 2), "tell": (1,)}


class Ended(Exception):
    """The run is at its end: ("fault", ..) or ("spent", "")."""


class Returned(Exception):
    pass


class Thrown(Exception):
    pass


class Thing:
    def __init__(self, kind, slots):
        self.kind = kind
        self.slots = slots


def numbered(node, count):
    """The node with its index as the last entry; its parts likewise. count is a list of the next index."""
    index = count[0]
    count[0] += 1
    parts = list(node)
    for at in PARTS.get(node[0], ()):
        if parts[at] is None:
            continue
        if parts[at] and isinstance(parts[at][0], str):
            parts[at] = numbered(parts[at], count)
        else:
            parts[at] = [numbered(part, count) for part in parts[at]]
    return parts + [index]


def wrap(number):
    return (number + 2 ** 31) % 2 ** 32 - 2 ** 31


def divided(first, second):
    sign = -1 if (first < 0) != (second < 0) else 1
    return sign * (abs(first) // abs(second))


class Reference:
    def __init__(self, program, given, bound):
        self.classes = {name: rest for name, *rest in program[0]}
        self.bodies = {}
        for owner, functions in [(None, program[1])] + [(each[0], each[3]) for each in program[0]]:
            for name, params, _, body in functions:
                count = [0]
                self.bodies[owner, name] = (params, [numbered(statement, count) for statement in body])
        self.given = list(given)
        self.left = bound
        self.depth = 0
        self.shown = []
        self.began = Counter()

    def outcome(self):
        try:
            try:
                self.begin(None, "main", {})
                word, told = "end", ""
            except Thrown as thrown:
                word, told = "fault", ("thrown", thrown.args[1])
        except Ended as end:
            word, told = end.args
        return (word, told, tuple(self.shown))

    def line(self, name):
        while name is not None:
            yield name
            name = self.classes[name][0]

    def beat(self):
        if self.left == 0:
            raise Ended("spent", "")
        self.left -= 1

    def begin(self, owner, name, names):
        self.depth += 1
        try:
            self.block((owner, name), names, self.bodies[owner, name][1])
        except Returned as back:
            return back.args[0]
        finally:
            self.depth -= 1

    def call(self, here, owner, name, args, names):
        self.beat()
        if self.depth == 200:
            self.fault("deep", here)
        for (param, _), value in zip(self.bodies[owner, name][0], args):
            names[param] = value
        return self.begin(owner, name, names)

    def told(self, here):
        return here[1] if here[0] is None else ".".join(here)

    def fault(self, word, here):
        raise Ended("fault", (word, self.told(here)))

    def held(self, thing, here):
        if thing is None:
            self.fault("nil", here)
        return thing

    def block(self, here, names, block):
        for statement in block:
            self.began[here + (statement[-1],)] += 1
            self.statement(here, names, statement)

    def statement(self, here, names, node):
        def value(part):
            return self.value(here, names, part)

        word = node[0]
        if word in ("var", "set"):
            names[node[1]] = value(node[-2])
        elif word == "put":
            thing = value(node[1])
            new = value(node[3])
            self.held(thing, here).slots[node[2]] = new
        elif word == "place":
            thing, index, new = value(node[1]), value(node[2]), value(node[3])
            self.entry(here, thing, index)
            thing.slots[index] = new
        elif word == "if":
            self.block(here, names, node[2] if value(node[1]) else node[3])
        elif word == "while":
            while value(node[1]):
                self.block(here, names, node[2])
                self.beat()
        elif word == "return":
            raise Returned(None if node[1] is None else value(node[1]))
        elif word == "throw":
            raise Thrown(self.held(value(node[1]), here), self.told(here))
        elif word == "try":
            self.tried(here, names, node)
        elif word == "show":
            shown = value(node[1])
            self.shown.append(shown if isinstance(shown, int) else self.held(shown, here).slots)
        else:
            value(node[1])

    def tried(self, here, names, node):
        try:
            self.block(here, names, node[1])
            return
        except Thrown as thrown:
            if not self.is_of(thrown.args[0], node[3]):
                raise
            names[node[2]] = thrown.args[0]
        self.block(here, names, node[4])

    def is_of(self, thing, name):
        return name in self.line(thing.kind)

    def entry(self, here, thing, index):
        slots = self.held(thing, here).slots
        if index not in range(len(slots)):
            self.fault("index", here)
        return slots[index]

    def value(self, here, names, node):
        self.began[here + (node[-1],)] += 1
        word = node[0]
        if word in ("int", "truth"):
            return node[1]
        if word == "text":
            return Thing("text", node[1])
        if word == "nil":
            return None
        if word == "name":
            return names[node[1]]
        if word == "read":
            if not self.given:
                self.fault("dry", here)
            return self.given.pop(0)
        if word == "new":
            fields = [field for name in self.line(node[1]) for field in self.classes[name][1]]
            return Thing(node[1], {field: self.blank(kind) for field, kind in fields})
        if word == "op" and node[1] in ("and", "or"):
            first = self.value(here, names, node[2])
            return first if first == (node[1] == "or") else self.value(here, names, node[3])
        parts = [part for part in node[1:-1] if isinstance(part, list)]
        if word in ("call", "ask"):
            parts = parts[:-1] + parts[-1]
        return self.behind(here, node, *[self.value(here, names, part) for part in parts])

    def blank(self, kind):
        return {"int": 0, "truth": False}.get(kind) if isinstance(kind, str) else None

    def behind(self, here, node, *values):
        word = node[0]
        first = values[0] if values else None
        if word == "get":
            return self.held(first, here).slots[node[2]]
        if word == "at":
            return self.entry(here, *values)
        if word == "sign":
            return ord(self.entry(here, *values))
        if word == "call":
            return self.call(here, None, node[1], values, {})
        if word == "ask":
            kind = self.held(first, here).kind
            owner = [name for name in self.line(kind) if (name, node[2]) in self.bodies][0]
            return self.call(here, owner, node[2], values[1:], {"self": first})
        if word == "row":
            if not 0 <= first <= 1000:
                self.fault("size", here)
            return Thing("row", [self.blank(node[1])] * first)
        if word == "not":
            return not first
        if word == "is":
            return first is not None and self.is_of(first, node[2])
        if word == "as":
            if first is not None and not self.is_of(first, node[2]):
                self.fault("cast", here)
            return first
        if word == "size":
            return len(self.held(first, here).slots)
        if word == "tell":
            return Thing("text", str(first))
        return self.reckoned(here, node[1], *values)

    def reckoned(self, here, sign, first, second):
        if sign == "=":
            return first is second if isinstance(first, Thing) else not isinstance(second, Thing) and first == second
        if sign == "<":
            return first < second
        if sign == "+":
            if isinstance(first, int):
                return wrap(first + second)
            signs = self.held(first, here).slots + self.held(second, here).slots
            if len(signs) > 200:
                self.fault("size", here)
            return Thing("text", signs)
        if sign == "-":
            return wrap(first - second)
        if sign == "*":
            return wrap(first * second)
        if second == 0:
            self.fault("zero", here)
        return wrap(divided(first, second)) if sign == "/" else first - second * divided(first, second)


def nodes_of(body):
    """All statements and expressions of a body, by their indexes, each with its own as its last entry."""
    count = [0]
    waiting = [numbered(statement, count) for statement in body]
    found = {}
    while waiting:
        node = waiting.pop()
        found[node[-1]] = node
        for part in node[1:-1]:
            if isinstance(part, list):
                waiting.extend([part] if part and isinstance(part[0], str) else part)
    return found


def reference(program, given, bound):
    """(outcome, how often each (class or None, name, index) began)."""
    run = Reference(program, given, bound)
    return run.outcome(), run.began
