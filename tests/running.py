"""A small machine for modules: it tells a run's outcome, how often each place was come to, and what it finds there."""

from collections import Counter

from tests.reference import Thing, divided, wrap


class Fault(Exception):
    pass


class Spent(Exception):
    pass


class Broken(Exception):
    """An instruction finds what its kinds do not let."""


def needs(truth):
    if not truth:
        raise Broken


class Running:
    """tables, if any, are by function (heights, stack_kinds, set_locals): what is found must be as they tell."""

    def __init__(self, module, given, bound, tables=None):
        self.classes, self.functions, main = module
        self.above = {each[0]: each[1] for each in self.classes}
        self.given = list(given)
        self.left = bound
        self.tables = tables
        self.shown = []
        self.came = Counter()
        self.frames = []
        self.open_frame(main, [])

    def open_frame(self, index, args):
        slots = list(args) + [Broken] * len(self.functions[index][3])
        needs(len(args) == len(self.functions[index][1]))
        self.frames.append({"function": index, "place": 0, "slots": slots, "stack": []})

    def outcome(self):
        try:
            while self.frames:
                self.step(self.frames[-1])
        except Fault as fault:
            return ("fault", (fault.args[0], self.functions[self.frames[-1]["function"]][0]), tuple(self.shown))
        except Spent:
            return ("spent", "", tuple(self.shown))
        return ("end", "", tuple(self.shown))

    def step(self, frame):
        index, place = frame["function"], frame["place"]
        self.came[index, place] += 1
        instruction = self.functions[index][4][place]
        if self.tables is not None:
            self.look(frame, index, place)
        word, *borne = instruction
        stack = list(frame["stack"])
        try:
            getattr(self, "do_" + word)(frame, *borne)
        except Spent:
            frame["stack"] = stack
            raise

    def look(self, frame, index, place):
        heights, kinds, sets = self.tables[index]
        needs(len(frame["stack"]) == heights[place])
        needs(len(kinds[place]) == heights[place])
        for value, kind in zip(frame["stack"], kinds[place]):
            needs(self.is_of_kind(value, kind))
        both = self.functions[index][1] + self.functions[index][3]
        for slot in sets[place]:
            needs(self.is_of_kind(frame["slots"][slot], both[slot]))

    def is_of_kind(self, value, kind):
        if kind == "mixed":
            return True
        if isinstance(value, bool) or isinstance(value, int):
            return kind == ("truth" if isinstance(value, bool) else "int")
        if value is None:
            return kind not in ("int", "truth")
        if not isinstance(value, Thing):
            return False
        if isinstance(kind, tuple) and kind[0] == "of":
            return value.kind[0] == "of" and kind[1] in self.line(value.kind[1])
        return value.kind == kind

    def line(self, name):
        found = []
        while name is not None:
            found.append(name)
            name = self.above[name]
        return found

    def pop(self, frame, *kinds):
        needs(len(frame["stack"]) >= len(kinds))
        values = [frame["stack"].pop() for _ in kinds][::-1]
        for value, kind in zip(values, kinds):
            needs(kind is None or self.is_of_kind(value, kind))
        return values

    def go_on(self, frame, *values):
        frame["stack"].extend(values)
        frame["place"] += 1

    def beat(self):
        if self.left == 0:
            raise Spent
        self.left -= 1

    def held(self, thing):
        if thing is None:
            raise Fault("nil")
        return thing

    def do_int(self, frame, value):
        self.go_on(frame, value)

    do_truth = do_int

    def do_text(self, frame, signs):
        self.go_on(frame, Thing("text", signs))

    def do_nil(self, frame):
        self.go_on(frame, None)

    def do_load(self, frame, slot):
        needs(frame["slots"][slot] is not Broken)
        self.go_on(frame, frame["slots"][slot])

    def do_store(self, frame, slot):
        function = self.functions[frame["function"]]
        frame["slots"][slot], = self.pop(frame, (function[1] + function[3])[slot])
        self.go_on(frame)

    def do_drop(self, frame):
        self.pop(frame, None)
        self.go_on(frame)

    def do_twin(self, frame):
        value, = self.pop(frame, None)
        self.go_on(frame, value, value)

    def do_add(self, frame):
        first, second = self.pop(frame, None, None)
        if isinstance(second, int) and not isinstance(second, bool):
            needs(self.is_of_kind(first, "int"))
            self.go_on(frame, wrap(first + second))
            return
        needs(self.is_of_kind(first, "text") and self.is_of_kind(second, "text"))
        signs = self.held(first).slots + self.held(second).slots
        if len(signs) > 200:
            raise Fault("size")
        self.go_on(frame, Thing("text", signs))

    def do_sub(self, frame):
        first, second = self.pop(frame, "int", "int")
        self.go_on(frame, wrap(first - second))

    def do_mul(self, frame):
        first, second = self.pop(frame, "int", "int")
        self.go_on(frame, wrap(first * second))

    def do_div(self, frame):
        first, second = self.pop(frame, "int", "int")
        if second == 0:
            raise Fault("zero")
        self.go_on(frame, wrap(divided(first, second)))

    def do_rem(self, frame):
        first, second = self.pop(frame, "int", "int")
        if second == 0:
            raise Fault("zero")
        self.go_on(frame, first - second * divided(first, second))

    def do_less(self, frame):
        first, second = self.pop(frame, "int", "int")
        self.go_on(frame, first < second)

    def do_same(self, frame):
        first, second = self.pop(frame, None, None)
        plain = isinstance(first, int) or isinstance(second, int)
        needs(not plain or isinstance(first, bool) == isinstance(second, bool))
        needs(not plain or isinstance(first, int) and isinstance(second, int))
        self.go_on(frame, first == second if plain else first is second)

    def do_not(self, frame):
        value, = self.pop(frame, "truth")
        self.go_on(frame, not value)

    def do_jump(self, frame, to):
        if to <= frame["place"]:
            self.beat()
        frame["place"] = to

    def do_if(self, frame, to):
        value, = self.pop(frame, "truth")
        if value:
            self.do_jump(frame, to)
        else:
            self.go_on(frame)

    def do_call(self, frame, index):
        args = self.pop(frame, *self.functions[index][1])
        self.begin(frame, index, args)

    def begin(self, frame, index, args):
        self.beat()
        if len(self.frames) == 200:
            raise Fault("deep")
        frame["place"] += 1
        self.open_frame(index, args)

    def methods(self, name):
        found = {}
        for each in self.line(name)[::-1]:
            found.update(dict([one[3] for one in self.classes if one[0] == each][0]))
        return found

    def do_ask(self, frame, name, method):
        params = self.functions[self.methods(name)[method]][1]
        args = self.pop(frame, ("of", name), *params[1:])
        index = self.methods(self.held(args[0]).kind[1])[method]
        self.begin(frame, index, args)

    def do_done(self, frame):
        result = self.functions[frame["function"]][2]
        values = [] if result is None else self.pop(frame, result)
        needs(frame["stack"] == [])
        self.frames.pop()
        if self.frames:
            self.frames[-1]["stack"].extend(values)

    def blank(self, kind):
        return {"int": 0, "truth": False}.get(kind) if isinstance(kind, str) else None

    def do_new(self, frame, name):
        fields = [field for each in self.classes for field in each[2] if each[0] in self.line(name)]
        self.go_on(frame, Thing(("of", name), {field: self.blank(kind) for field, kind in fields}))

    def do_get(self, frame, name, field):
        thing, = self.pop(frame, ("of", name))
        self.go_on(frame, self.held(thing).slots[field])

    def do_put(self, frame, name, field):
        kind = [one[1] for each in self.classes for one in each[2] if each[0] in self.line(name) and one[0] == field][0]
        thing, value = self.pop(frame, ("of", name), kind)
        self.held(thing).slots[field] = value
        self.go_on(frame)

    def do_row(self, frame, kind):
        number, = self.pop(frame, "int")
        if number not in range(1001):
            raise Fault("size")
        self.go_on(frame, Thing(("row", kind), [self.blank(kind)] * number))

    def do_at(self, frame):
        row, index = self.pop(frame, None, "int")
        needs(row is None or isinstance(row, Thing) and row.kind[0] == "row")
        if index not in range(len(self.held(row).slots)):
            raise Fault("index")
        self.go_on(frame, row.slots[index])

    def do_set(self, frame):
        row, index, value = self.pop(frame, None, "int", None)
        needs(row is None or isinstance(row, Thing) and row.kind[0] == "row" and self.is_of_kind(value, row.kind[1]))
        if index not in range(len(self.held(row).slots)):
            raise Fault("index")
        row.slots[index] = value
        self.go_on(frame)

    def do_size(self, frame):
        thing, = self.pop(frame, None)
        needs(thing is None or isinstance(thing, Thing) and (thing.kind == "text" or thing.kind[0] == "row"))
        self.go_on(frame, len(self.held(thing).slots))

    def do_sign(self, frame):
        text, index = self.pop(frame, "text", "int")
        if index not in range(len(self.held(text).slots)):
            raise Fault("index")
        self.go_on(frame, ord(text.slots[index]))

    def do_tell(self, frame):
        number, = self.pop(frame, "int")
        self.go_on(frame, Thing("text", str(number)))

    def object(self, frame):
        thing, = self.pop(frame, None)
        needs(thing is None or isinstance(thing, Thing) and thing.kind[0] == "of")
        return thing

    def do_is(self, frame, name):
        thing = self.object(frame)
        self.go_on(frame, thing is not None and name in self.line(thing.kind[1]))

    def do_as(self, frame, name):
        thing = self.object(frame)
        if thing is not None and name not in self.line(thing.kind[1]):
            raise Fault("cast")
        self.go_on(frame, thing)

    def do_throw(self, frame):
        thing = self.held(self.object(frame))
        for many in range(len(self.frames), 0, -1):
            caller = self.frames[many - 1]
            # One that waits stands behind its call.
            place = caller["place"] if caller is frame else caller["place"] - 1
            for begin, end, to, name in self.functions[caller["function"]][5]:
                if begin <= place < end and name in self.line(thing.kind[1]):
                    del self.frames[many:]
                    caller["place"] = to
                    caller["stack"] = [thing]
                    return
        raise Fault("thrown")

    def do_show(self, frame):
        value, = self.pop(frame, None)
        needs(value is None or isinstance(value, int) or value.kind == "text")
        self.shown.append(value if isinstance(value, int) else self.held(value).slots)
        self.go_on(frame)

    def do_read(self, frame):
        if not self.given:
            raise Fault("dry")
        self.go_on(frame, self.given.pop(0))


class Finding:
    """The graph of a run that was spent, told by tables as Running has them."""

    def __init__(self, run):
        self.run = run
        self.found = []

    def graph(self):
        frames = tuple([self.frame(frame, frame is not self.run.frames[-1]) for frame in self.run.frames])
        things = []
        for thing in self.found:
            things.append(self.thing(thing))
        return (frames, tuple(things))

    def frame(self, frame, waits):
        index, place = frame["function"], frame["place"]
        _, kinds, sets = self.run.tables[index]
        asked = place - 1 if waits else place
        slots = [self.value(value) if slot in sets[asked] else "unset" for slot, value in enumerate(frame["slots"])]
        stack = ["mixed" if kind == "mixed" else self.value(value)
                 for kind, value in zip(kinds[asked], frame["stack"])]
        return (index, place, tuple(slots), tuple(stack))

    def value(self, value):
        if not isinstance(value, Thing):
            return value
        for number, thing in enumerate(self.found):
            if thing is value:
                return ("thing", number)
        self.found.append(value)
        return ("thing", len(self.found) - 1)

    def thing(self, thing):
        if thing.kind == "text":
            return ("text", thing.slots)
        if thing.kind[0] == "row":
            return ("row", thing.kind[1], tuple([self.value(value) for value in thing.slots]))
        names = self.run.line(thing.kind[1])[::-1]
        fields = [field for name in names for each in self.run.classes if each[0] == name for field, _ in each[2]]
        return ("of", thing.kind[1], tuple([self.value(thing.slots[field]) for field in fields]))


def graph_module(module, given, beats, tables):
    """The graph behind so many beats, None if the run ends ahead of that."""
    run = Running(module, given, beats, tables)
    return Finding(run).graph() if run.outcome()[0] == "spent" else None


def run_module(module, given, bound, tables=None):
    """(outcome, how often each (function's index, place) was come to)."""
    run = Running(module, given, bound, tables)
    return run.outcome(), run.came
