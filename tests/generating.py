"""Checked programs by a row of numbers: equal seeds make equal programs."""

import random

from movedrun.checks import check
from movedrun.programs import is_program


class Making:
    def __init__(self, seed):
        self.random = random.Random(seed)
        self.names = 0
        self.classes = {}
        self.functions = {}
        self.heads()

    def name(self):
        self.names += 1
        return "n" + str(self.names)

    def one_of(self, things):
        return things[self.random.randrange(len(things))]

    def chance(self, many):
        return self.random.randrange(100) < many

    def line(self, name):
        found = []
        while name is not None:
            found.append(name)
            name = self.classes[name]["above"]
        return found

    def below(self, name):
        return [other for other in self.classes if name in self.line(other)]

    def kind(self, rows=2):
        kinds = ["int", "int", "int", "truth", "text"] + [("of", name) for name in self.classes]
        if rows and self.chance(15):
            return ("row", self.kind(rows - 1))
        return self.one_of(kinds)

    def heads(self):
        names = ["C" + str(at) for at in range(self.random.randrange(5))]
        for name in names:
            self.classes[name] = {"above": None}
        for at, name in enumerate(names):
            if at and self.chance(60):
                self.classes[name]["above"] = self.one_of(names[:at])
        for name in names:
            self.classes[name]["fields"] = [(self.name(), self.kind()) for _ in range(self.random.randrange(4))]
            methods = {"m" + str(at): self.head() for at in range(3) if self.chance(50)}
            for other in self.line(name)[1:]:
                # An override has the kinds of the one above.
                for method, (params, result) in self.classes[other]["methods"].items():
                    if method in methods:
                        methods[method] = ([(self.name(), kind) for _, kind in params], result)
            self.classes[name]["methods"] = methods
        for at in range(self.random.randrange(4)):
            self.functions["f" + str(at)] = self.head()
        self.functions["main"] = ([], None)

    def head(self):
        params = [(self.name(), self.kind()) for _ in range(self.random.randrange(3))]
        return (params, self.kind() if self.chance(60) else None)

    def program(self):
        classes = [
            (name, each["above"], tuple(each["fields"]),
             tuple(self.function(name, method, head) for method, head in each["methods"].items()))
            for name, each in self.classes.items()]
        functions = [self.function(None, name, head) for name, head in self.functions.items()]
        self.random.shuffle(classes)
        self.random.shuffle(functions)
        return (tuple(classes), tuple(functions))

    def function(self, owner, name, head):
        params, self.result = head
        self.reach = list(params)
        self.owner = owner
        self.vars = 9
        self.budget = 60 if name == "main" else 25
        body = list(self.block(0))
        if self.result is not None:
            body.append(("return", self.value(self.result, 2)))
        elif self.chance(20):
            body.append(("return", None))
        return (name, tuple(params), self.result, tuple(body))

    def block(self, depth):
        ahead = len(self.reach)
        found = []
        for _ in range(self.random.randrange(1, 7 - depth)):
            if self.budget <= 0:
                break
            self.budget -= 1
            found.append(self.statement(depth))
        del self.reach[ahead:]
        return tuple(found)

    def statement(self, depth):
        words = ["var", "var", "var", "set", "set", "put", "place", "show", "show", "do", "do"]
        if depth < 3:
            words += ["if", "while", "try", "if", "while", "try"]
            words += ["return"] if self.chance(10) else []
            words += ["throw"] if self.chance(40) else []
        return getattr(self, "make_" + self.one_of(words))(depth)

    def new_name(self, kind):
        name = self.name()
        self.vars -= 1
        self.reach.append((name, kind))
        return name

    def make_var(self, depth):
        if self.vars <= 0:
            return self.make_show(depth)
        kind = self.kind()
        value = self.value(kind, 3)
        return ("var", self.new_name(kind), kind, value)

    def make_set(self, depth):
        if not self.reach:
            return self.make_var(depth)
        name, kind = self.one_of(self.reach)
        return ("set", name, self.value(kind, 3))

    def make_put(self, depth):
        found = [(name, field, kind) for name in self.classes for each in self.line(name)
                 for field, kind in self.classes[each]["fields"]]
        if not found:
            return self.make_set(depth)
        name, field, kind = self.one_of(found)
        return ("put", self.value(("of", name), 2, False), field, self.value(kind, 2))

    def make_place(self, depth):
        kind = self.kind(1)
        return ("place", self.value(("row", kind), 2, False), self.index(), self.value(kind, 2))

    def index(self):
        return self.value("int", 1) if self.chance(20) else ("int", self.one_of([0, 0, 0, 1, 1, 2]))

    def make_show(self, depth):
        return ("show", self.value(self.one_of(["int", "int", "truth", "text"]), 3))

    def make_do(self, depth):
        found = [name for name in self.functions]
        if found and self.chance(50):
            return ("do", self.call(self.one_of(found), 3))
        asks = self.asks(lambda result: True)
        return ("do", self.ask(self.one_of(asks), 3) if asks and self.chance(70) else self.value(self.kind(), 3))

    def make_if(self, depth):
        return ("if", self.value("truth", 3), self.block(depth + 1), self.block(depth + 1))

    def make_while(self, depth):
        return ("while", self.value("truth", 3), self.block(depth + 1))

    def make_return(self, depth):
        return ("return", None if self.result is None else self.value(self.result, 3))

    def make_throw(self, depth):
        if not self.classes:
            return self.make_return(depth)
        return ("throw", self.value(("of", self.one_of(list(self.classes))), 2, False))

    def make_try(self, depth):
        if not self.classes or self.vars <= 0:
            return self.make_if(depth)
        first = self.block(depth + 1)
        name = self.one_of(list(self.classes))
        caught = self.new_name(("of", name))
        second = self.block(depth + 1)
        self.reach = [each for each in self.reach if each[0] != caught]
        return ("try", first, caught, name, second)

    def fits(self, kind, other):
        if kind == other:
            return True
        both = isinstance(kind, tuple) and isinstance(other, tuple) and kind[0] == other[0] == "of"
        return both and other[1] in self.line(kind[1])

    def value(self, kind, depth, nil=True):
        """An expression whose kind fits; nil itself only where nil may stand."""
        names = [("name", name) for name, own in self.reach if self.fits(own, kind)]
        if self.owner is not None and self.fits(("of", self.owner), kind):
            names += [("name", "self")] * 2
        if names and self.chance(50):
            return self.one_of(names)
        if depth <= 0 or self.chance(20):
            return self.simple(kind, nil)
        found = self.others(kind, depth - 1)
        return self.one_of(found)() if found else self.simple(kind, nil)

    def simple(self, kind, nil):
        if kind == "int":
            return ("int", self.one_of([0, 1, 2, 3, -1, 7, 100, -2 ** 31, 2 ** 31 - 1]))
        if kind == "truth":
            return ("truth", self.chance(50))
        if kind != "text" and nil and self.chance(20):
            return ("nil",)
        if kind == "text":
            return ("text", self.one_of(["", "a", "xyz"]))
        if kind[0] == "row":
            return ("row", kind[1], ("int", self.random.randrange(2, 6)))
        return ("new", self.one_of(self.below(kind[1])))

    def asks(self, lets):
        return [(name, method, head) for name in self.classes for each in self.line(name)
                for method, head in self.classes[each]["methods"].items() if lets(head[1])]

    def call(self, name, depth):
        return ("call", name, tuple(self.value(kind, depth - 1) for _, kind in self.functions[name][0]))

    def ask(self, what, depth):
        name, method, (params, _) = what
        args = tuple(self.value(kind, depth - 1) for _, kind in params)
        return ("ask", self.value(("of", name), depth - 1, False), method, args)

    def others(self, kind, depth):
        """What makes a value of this kind out of parts."""
        found = [lambda: self.of_kind(kind, depth)] * 4
        gets = [(name, field) for name in self.classes for each in self.line(name)
                for field, own in self.classes[each]["fields"] if self.fits(own, kind)]
        if gets:
            name, field = self.one_of(gets)
            found += [lambda: ("get", self.value(("of", name), depth, False), field)] * 2
        found.append(lambda: ("at", self.value(("row", kind), depth, False), self.index())
                     if self.rows(kind) < 2 else self.of_kind(kind, depth))
        calls = [each for each, head in self.functions.items() if head[1] is not None and self.fits(head[1], kind)]
        if calls:
            called = self.one_of(calls)
            found.append(lambda: self.call(called, depth))
        asks = self.asks(lambda result: result is not None and self.fits(result, kind))
        if asks:
            asked = self.one_of(asks)
            found.append(lambda: self.ask(asked, depth))
        return found

    def rows(self, kind):
        return 1 + self.rows(kind[1]) if isinstance(kind, tuple) and kind[0] == "row" else 0

    def of_kind(self, kind, depth):
        if kind == "int":
            return self.int_of(depth)
        if kind == "truth":
            return self.truth_of(depth)
        if kind == "text":
            if self.chance(40):
                return ("tell", self.value("int", depth))
            return ("op", "+", self.value("text", depth), self.value("text", depth))
        if kind[0] == "row":
            return ("row", kind[1], self.value("int", 1) if self.chance(10) else ("int", self.random.randrange(2, 6)))
        if self.chance(60):
            return ("new", self.one_of(self.below(kind[1])))
        return ("as", self.of_line(kind[1], depth), kind[1])

    def of_line(self, name, depth):
        """An object's expression whose class is the same, above or below."""
        other = self.one_of(self.line(name) + self.below(name))
        value = self.value(("of", other), depth - 1)
        return ("as", value, other) if other in self.line(name) else value

    def int_of(self, depth):
        sign = self.one_of(["+", "-", "*", "/", "rem", "size", "sign", "read"])
        if sign == "read":
            return ("read",)
        if sign == "size":
            return ("size", self.value(self.one_of(["text", ("row", "int")]), depth, False))
        if sign == "sign":
            return ("sign", self.value("text", depth), self.index())
        return ("op", sign, self.value("int", depth), self.value("int", depth))

    def truth_of(self, depth):
        sign = self.one_of(["<", "=", "and", "or", "not", "is"])
        if sign == "not":
            return ("not", self.value("truth", depth))
        if sign == "is" and self.classes:
            name = self.one_of(list(self.classes))
            return ("is", self.of_line(name, depth), name)
        if sign == "<":
            return ("op", "<", self.value("int", depth), self.value("int", depth))
        if sign in ("and", "or"):
            return ("op", sign, self.value("truth", depth), self.value("truth", depth))
        kind = self.kind()
        return ("op", "=", self.value(kind, depth), self.value(kind, depth))


def made_programs(first, many):
    """So many programs that the check lets by; a few that are made are too great, or compare unlike kinds."""
    found = []
    while len(found) < many:
        program = Making(first).program()
        if is_program(program) and check(program) is None:
            found.append(program)
        first += 1
    return found
