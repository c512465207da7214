"""Silent steps: what a view's last frame does with sources alone."""

from movedrun.values import difference, is_less, multiple, quotient, rest, wrapped


class SilentWalk:
    """A view as it goes on step by step; each step goes to a greater place."""

    def __init__(self, known, view):
        self.known = known
        self.ahead = view[:-1]
        self.function, self.place, slots, stack = view[-1]
        self.slots = list(slots)
        self.stack = list(stack)

    def view(self):
        return self.ahead + ((self.function, self.place, tuple(self.slots), tuple(self.stack)),)

    def step(self):
        """Does one silent step; False if there is none."""
        instruction = self.known.functions[self.function][4][self.place]
        if instruction[0] not in SILENT:
            return False
        rule = SILENT[instruction[0]]
        to = rule(self, instruction)
        if to is None:
            return False
        self.place = to
        self.drop_unset()
        return True

    def drop_unset(self):
        """What is set no more at the place that is come to has no source."""
        is_set = self.known.sets[self.function][self.place]
        for slot, source in enumerate(list(self.slots)):
            if source is not None and slot not in is_set:
                self.slots[slot] = None

    def take_two(self):
        second = self.stack.pop()
        return self.stack.pop(), second


def settled_view(known, view):
    """The view behind as many silent steps as there are."""
    walk = SilentWalk(known, view)
    while walk.step():
        continue
    return walk.view()


def passes(known, view, other):
    """Whether the other view is one that the silent steps of a view pass, itself among them."""
    walk = SilentWalk(known, view)
    while walk.place < other[-1][1]:
        if not walk.step():
            return False
    return walk.view() == other


def push_itself(walk, instruction):
    """A constant is told as a source just as it is told as an instruction."""
    walk.stack.append(instruction)
    return walk.place + 1


def load(walk, instruction):
    walk.stack.append(walk.slots[instruction[1]])
    return walk.place + 1


def store(walk, instruction):
    walk.slots[instruction[1]] = walk.stack.pop()
    return walk.place + 1


def drop(walk, instruction):
    walk.stack.pop()
    return walk.place + 1


def twin(walk, instruction):
    walk.stack.append(walk.stack[-1])
    return walk.place + 1


def jump(walk, instruction):
    return instruction[1] if instruction[1] > walk.place else None


def jump_if(walk, instruction):
    if walk.stack[-1][0] == "r" or instruction[1] <= walk.place:
        return None
    return instruction[1] if walk.stack.pop()[1] else walk.place + 1


def reckon(walk, instruction):
    """What two ints come to."""
    first, second = walk.stack[-2:]
    word = instruction[0]
    if first[0] != "int" or second[0] != "int" or (word in ("div", "rem") and second[1] == 0):
        return None
    walk.take_two()
    rule = RECKONED[word]
    found = rule(first[1], second[1])
    walk.stack.append(("truth" if word == "less" else "int", found))
    return walk.place + 1


def match_both(walk, instruction):
    if walk.stack[-2][0] == "r" or walk.stack[-1][0] == "r":
        return None
    first, second = walk.take_two()
    walk.stack.append(("truth", first == second))
    return walk.place + 1


def negate(walk, instruction):
    if walk.stack[-1][0] == "r":
        return None
    walk.stack.append(("truth", not walk.stack.pop()[1]))
    return walk.place + 1


def sum_of(first, second):
    return wrapped(first + second)


RECKONED = {
    "add": sum_of,
    "sub": difference,
    "mul": multiple,
    "div": quotient,
    "rem": rest,
    "less": is_less,
}

SILENT = {
    "int": push_itself,
    "truth": push_itself,
    "nil": push_itself,
    "load": load,
    "store": store,
    "drop": drop,
    "twin": twin,
    "jump": jump,
    "if": jump_if,
    "add": reckon,
    "sub": reckon,
    "mul": reckon,
    "div": reckon,
    "rem": reckon,
    "less": reckon,
    "same": match_both,
    "not": negate,
}
