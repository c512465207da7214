"""lift: what is promised of the strips that it makes (point 40)."""

import random
import unittest

from movedrun.compiler import compiled
from movedrun.errors import BadGuesses, BadIndex, BadModule, BadOpened, NotVerified
from movedrun.machine import runs_alike
from movedrun.strips import lift, strip_holds
from movedrun.verifier import stack_kinds, verify
from tests.generating import made_programs
from tests.modulebuilding import function_of, module_of, read_code, tree_module, with_code
from tests.spoiling import spoiled


def places_of(module, *words):
    return [(index, place) for index, function in enumerate(module[1])
            for place, instruction in enumerate(function[4]) if instruction[0] in words]


def below(module, name):
    found = [name]
    for each in module[0]:
        if each[1] in found:
            found.append(each[0])
    return found


def method(module, name, word):
    """The function's index of a class's method."""
    while name is not None:
        own = [each for each in module[0] if each[0] == name][0]
        if word in dict(own[3]):
            return dict(own[3])[word]
        name = own[1]


class Lifting(unittest.TestCase):
    def lifts(self, module, function=0, guesses=(), opened=()):
        strip = lift(module, function, guesses, opened)
        self.assertIsNotNone(strip)
        self.keeps(module, strip, guesses, opened)
        return strip

    def keeps(self, module, strip, guesses, opened):
        """The strip is right, and its calls, asks and outs stand as promised."""
        self.assertIs(strip_holds(module, strip), True)
        guessed = {guess[:2]: guess[2] for guess in guesses}
        kinds = {}
        for view, facts, deed, _ in strip[2]:
            function, place, _, stack = view[-1]
            instruction = module[1][function][4][place]
            if deed[0] == "moves":
                continue
            if instruction[0] in ("call", "ask"):
                self.assertEqual(deed[0], self.call_deed(module, view, facts, guessed, opened), (view, deed))
                if deed[0] == "guard":
                    self.assertEqual(deed[1], guessed[function, place])
            if deed[0] == "out":
                if function not in kinds:
                    kinds[function] = stack_kinds(module, function)
                self.assertTrue(self.may_go_out(instruction, place, stack, kinds[function][place]), (instruction, stack))

    def call_deed(self, module, view, facts, guessed, opened):
        function, place, _, stack = view[-1]
        instruction = module[1][function][4][place]
        if instruction[0] == "call":
            callee = instruction[1]
        else:
            many = len(module[1][method(module, instruction[1], instruction[2])][1])
            receiver = stack[len(stack) - many]
            fact = dict(facts).get(receiver[1]) if receiver[0] == "r" else None
            if receiver[0] == "r" and fact is None and (function, place) in guessed:
                return "guard"
            callee = method(module, fact, instruction[2]) if fact in below(module, instruction[1]) else None
        fits = callee is not None and len(view) < 5 and callee not in [frame[0] for frame in view]
        return "enter" if fits and (function, place) in opened else "call"

    def may_go_out(self, instruction, place, stack, kinds):
        word = instruction[0]
        if word == "throw":
            return True
        if word == "if":
            return stack[-1][0] == "truth" and instruction[1] <= place
        if word in ("div", "rem"):
            return stack[-1] == ("int", 0) and stack[-2][0] == "int"
        return word == "at" and kinds[-2] == "nil"


class Promises(Lifting):
    def test_the_loop_of_an_entry(self):
        module = module_of(function_of(name="main", own=("int",), code=read_code(
            "int 0 ; store 0 ; load 0 ; int 3 ; less ; if 7 ; done ; load 0 ; int 1 ; add ; store 0 ; jump 2")))
        strip = self.lifts(module)
        self.assertEqual([place for place, _ in strip[1]], [0, 2])
        self.assertEqual(lift(module=module, function=0, guesses=(), opened=()), strip)

    def test_asks(self):
        text = "new B ; read ; ask A m ; show ; nil ; as A ; twin ; drop ; twin ; read ; ask A m ; show ; read ; ask A m ; show ; done"
        module = tree_module(text)
        self.assertEqual(verify(module), None)
        first, second, third = places_of(module, "ask")
        for guesses in ((), (second + ("E",),), (second + ("B",), third + ("B",)), (first + ("A",), third + ("C",))):
            for opened in ((), (first,), (second, third), (first, second, third)):
                self.lifts(module, 0, guesses, opened)
        words = [row[2][0] for row in self.lifts(module, 0, (second + ("B",), third + ("B",)), (first, second, third))[2]]
        # The last ask is of the same object, so it needs no guard of its own.
        self.assertEqual((words.count("guard"), words.count("enter"), words.count("call")), (1, 3, 0))
        words = [row[2][0] for row in self.lifts(module)[2]]
        self.assertEqual((words.count("guard"), words.count("enter"), words.count("call")), (0, 0, 3))

    def test_a_guard_where_ways_meet(self):
        """Behind the guard stands the ask itself, no moves, though more than one way leads to its place."""
        module = tree_module("new A ; as A ; store 0 ; read ; int 0 ; less ; if 10 ; load 0 ; int 1 ; jump 12 ; load 0 ; int 2 ; ask A m ; show ; jump 3",
                             own=(("of", "A"),))
        for opened in ((), ((0, 12),)):
            strip = self.lifts(module, 0, ((0, 12, "A"),), opened)
            words = [row[2][0] for row in strip[2]]
            self.assertIn("guard", words)
            self.assertIn("moves", words)
            self.assertIsNone(runs_alike(module, (1, -1, 2, -2), 30, (16, 8, 8, 2), (0, 8), (strip,)))

    def test_an_ask_of_nil(self):
        module = tree_module("nil ; read ; ask A m ; show ; done")
        self.lifts(module)
        self.lifts(module, 0, ((0, 2, "B"),), ((0, 2),))

    def test_outs(self):
        for text in ("new A ; throw", "nil ; throw", "int 1 ; int 0 ; div ; show ; done", "int 1 ; int 0 ; rem ; show ; done", "nil ; int 0 ; at ; drop ; done",
                     "truth true ; if 0 ; done", "truth false ; if 0 ; done", "nil ; read ; at ; drop ; done"):
            strip = self.lifts(tree_module(text))
            self.assertIn("out", [row[2][0] for row in strip[2]])
        for text in ("read ; int 0 ; div ; show ; done", "nil ; get A n ; show ; done", "nil ; nil ; add ; drop ; done", "nil ; show ; done", "nil ; size ; show ; done",
                     "nil ; int 0 ; sign ; show ; done", "int -1 ; row int ; drop ; done", "nil ; int 1 ; put A n ; done"):
            module = tree_module(text)
            self.assertIs(strip_holds(module, lift(module, 0, (), ())), True)

    def test_made_ones(self):
        chance = random.Random(9)
        made = 0
        for program in made_programs(8000, 8):
            module = compiled(program)
            modules = [module] + [each for each in (spoiled(chance, module) for _ in range(4)) if verify(each) is None]
            for each in modules:
                made += self.looks(chance, each)
        self.assertGreater(made, 150)

    def looks(self, chance, module):
        made = 0
        asks, calls = places_of(module, "ask"), places_of(module, "call", "ask")
        for function in range(len(module[1])):
            guesses = tuple(place + (chance.choice(below(module, module[1][place[0]][4][place[1]][1])),)
                            for place in asks if chance.random() < 0.7)
            opened = tuple(place for place in calls if chance.random() < 0.5)
            for told in (((), ()), (guesses, ()), ((), opened), (guesses, opened)):
                strip = lift(module, function, *told)
                if strip is not None:
                    made += 1
                    self.keeps(module, strip, *told)
                elif len(module[1][function][4]) <= 60:
                    self.assertNotEqual(told[1], ())
        return made


# What is nil all the time is in a register behind the loop's head.
NIL_LOOP = "nil ; read ; int 0 ; less ; if 1 ; "


class NilsOwnKind(Lifting):
    """An ask is guarded whatever kind its receiver has at the place (point 40)."""

    def words(self, strip):
        return [row[2][0] for row in strip[2]]

    def runs(self, module, strip):
        for schedule in ((), (8,), (0, 9, 6), (1, 8, 4)):
            for given in ((), (1,), (-1, -2, 3, 4), (-1, 0, 0, -1, 0)):
                self.assertIsNone(runs_alike(module, given, 20, (16, 8, 8, 2), schedule, (strip,)))

    def test_the_guard_and_what_is_behind_it(self):
        module = module_of(function_of(name="main", code=read_code(NIL_LOOP + "ask A m ; done")),
                           function_of(name="A.m", params=(("of", "A"),)), classes=(("A", None, (), (("m", 1),)),))
        view, fact = ((0, 5, (), (("r", 0),)),), ((0, "A"),)
        end = (((0, 6, (), ()),), (), ("done",), None)
        opened = ((0, 6, (), ()), (1, 0, (("r", 0),), ()))
        for places, behind in (((), [(view, fact, ("call", None), end)]), (((0, 5),), [(view, fact, ("enter",), (opened, (), ("leave",), end))])):
            strip = self.lifts(module, 0, ((0, 5, "A"),), places)
            self.runs(module, strip)
            rows = strip[2]
            found = [rows[row[3]] for row in rows if row[0] == view and row[1] == ()]
            self.assertEqual([row[2] for row in rows if row[0] == view and row[1] == ()], [("guard", "A")])
            self.assertEqual([row[:3] for row in found], [row[:3] for row in behind])
        self.assertEqual([row[2] for row in self.lifts(module)[2] if row[0] == view], [("call", None)])

    def test_methods_with_params(self):
        for code, place, names in (("int 7 ; ask A m ; show ; done", 6, "ABCE"), ("read ; ask A m ; show ; done", 6, "ABCE"), ("nil ; ask A k ; done", 6, "ABCE"),
                                   ("new B ; ask A k ; done", 6, "ABCE"), ("read ; ask B m ; show ; done", 6, "BE"), ("ask D m ; drop ; done", 5, "D")):
            module = tree_module(NIL_LOOP + code)
            for name in names:
                for opened, word in (((), "call"), (((0, place),), "enter")):
                    strip = self.lifts(module, 0, ((0, place, name),), opened)
                    # From the entry 0 the receiver is nil itself: it is called.
                    self.assertEqual([self.words(strip).count(each) for each in ("guard", "enter", "call")], [1, word == "enter", 1 + (word == "call")])
                    self.runs(module, strip)

    def test_one_guard_for_each_register(self):
        module = tree_module(NIL_LOOP + "twin ; int 1 ; ask A m ; drop ; twin ; nil ; ask A k ; int 2 ; ask B m ; show ; done")
        guesses = tuple(place + ("B",) for place in places_of(module, "ask"))
        self.assertEqual(len(guesses), 3)
        for many in range(4):
            for opened in ((), tuple(place[:2] for place in guesses)):
                strip = self.lifts(module, 0, guesses[many:], opened)
                self.assertEqual(self.words(strip).count("guard"), many < 3)
                self.runs(module, strip)

    def test_a_fact_of_a_class_that_the_ask_is_not_of(self):
        """Of nil's own kind all may be asked; behind a guard of D the object is no A, and is not guarded again."""
        module = tree_module(NIL_LOOP + "twin ; ask D m ; drop ; twin ; int 1 ; ask A m ; drop ; ask D m ; drop ; done")
        first, second, third = places_of(module, "ask")
        for opened in ((), (second,), (first, second, third)):
            strip = self.lifts(module, 0, (first + ("D",), second + ("B",), third + ("D",)), opened)
            self.assertEqual(self.words(strip).count("guard"), 1)
            known = [row[2][0] for row in strip[2] if row[1] != () and row[0][-1][:2] in (second, third)]
            self.assertEqual(known, ["call", "enter" if third in opened else "call"])
            self.runs(module, strip)

    def test_in_frames_that_are_opened(self):
        """The loop stands in the innermost frame; what waits has nil on its stacks, too."""
        for depth in range(1, 6):
            functions = [function_of(name=f"f{index}", code=read_code(f"nil ; call {index + 1} ; drop ; done")) for index in range(depth - 1)]
            functions.append(function_of(name="loop", code=read_code(NIL_LOOP + "twin ; int 4 ; ask A m ; show ; ask A k ; done")))
            functions.append(function_of(name="A.m", params=(("of", "A"), "int"), result="int", code=read_code("load 1 ; done")))
            functions.append(function_of(name="A.k", params=(("of", "A"),)))
            module = module_of(*functions, classes=(("A", None, (), (("m", depth), ("k", depth + 1))),))
            self.assertEqual(verify(module), None)
            calls, asks = places_of(module, "call"), places_of(module, "ask")
            guesses = tuple(place + ("A",) for place in asks)
            for opened in (tuple(calls), tuple(sorted(calls + asks))):
                strip = self.lifts(module, 0, guesses, opened)
                words = self.words(strip)
                # From the entry 0 nil itself is asked; five frames let no further one be opened.
                self.assertEqual((words.count("guard"), words.count("leave") > 0), (1, depth > 1 or opened != tuple(calls)))
                self.assertEqual(words.count("enter") - len(calls), 2 if opened != tuple(calls) and depth < 5 else 0)
                self.runs(module, strip)

    def made_code(self, chance):
        """A loop over two nils, which are then asked at random; ways part and meet between."""
        code = ["nil", "nil", "read", "int 0", "less", "if 2"]
        for _ in range(chance.randrange(1, 7)):
            word = chance.choice(("ask A m", "ask B m", "ask D m", "ask A k", "text", "part"))
            if word == "text":
                code += ["text a", "drop"]
            elif word == "part":
                code += ["read", "int 0", "less", f"if {len(code) + 6}", "read", "drop"]
            else:
                code += ["twin"] + {"k": ["twin"], "m": ["read"]}[word[-1]][:word != "ask D m"] + [word] + ["drop"] * (word[-1] == "m")
        return " ; ".join(code + ["drop", chance.choice(("read ; ask A m", "ask D m")), "drop", "done"])

    def test_made_ones(self):
        chance = random.Random(40)
        guards = 0
        for _ in range(150):
            module = tree_module(self.made_code(chance))
            self.assertEqual(verify(module), None)
            asks = places_of(module, "ask")
            guesses = tuple(place + (chance.choice(below(module, module[1][0][4][place[1]][1])),) for place in asks if chance.random() < 0.8)
            for opened in ((), tuple(place for place in asks if chance.random() < 0.6)):
                strip = self.lifts(module, 0, guesses, opened)
                guards += self.words(strip).count("guard")
                self.assertIsNone(runs_alike(module, (-1, 0, 1, -1, -1, 0), 12, (16, 8, 8, 2), (8, 0, 1), (strip,)))
        self.assertGreater(guards, 150)


class Sizes(Lifting):
    def random_function(self, chance, many, name, callees):
        """Code of ifs and jumps wherever they lead, with as little between as may be."""
        while True:
            code = [("int", 0), ("store", 0)]
            while len(code) < many - 1:
                word = chance.choice(("if", "if", "if", "jump", "load", "reckon", "reckon"))
                to = chance.randrange(1, many - 1)
                if word == "if" and len(code) < many - 3:
                    code += [chance.choice((("truth", True), ("truth", False), ("load", 0))), ("if", to)]
                    if code[-2] == ("load", 0):
                        code[-2:] = [("load", 0), ("int", 3), ("less",), ("if", to)]
                elif word == "jump":
                    code.append(("jump", to))
                elif word == "load" and len(code) < many - 2:
                    code += [("load", 0), ("store", 1)]
                elif word == "reckon" and len(code) < many - 4:
                    code += [("load", 0), ("int", chance.randrange(3)), ("add",), ("store", 0)]
            code = code[:many - 1] + [("done",)]
            for callee in callees:
                code[chance.randrange(2, many - 1)] = ("call", callee)
            function = function_of(name=name, own=("int", "int"), code=tuple(code))
            # A call of what takes and returns nothing goes on behind it.
            plain = tuple(("jump", place + 1) if each[0] == "call" else each for place, each in enumerate(code))
            if verify(module_of(function_of(name="main", own=("int", "int"), code=plain))) is None:
                return function

    def test_sixty_instructions(self):
        chance = random.Random(1)
        for _ in range(60):
            module = module_of(self.random_function(chance, 60, "main", ()))
            self.lifts(module)

    def test_sixty_instructions_with_as_many_ways_as_may_be(self):
        for many in (3, 7, 13):
            # Each if may lead to any of the constants behind, and each of these is a place where ways meet.
            code = []
            for index in range(many):
                code += [("read",), ("int", 0), ("less",), ("if", 4 * many + index % (60 - 4 * many - 1))]
            code += [("jump", at + 1) for at in range(4 * many, 59)] + [("done",)]
            module = module_of(function_of(name="main", code=tuple(code)))
            self.assertEqual(verify(module), None)
            self.lifts(module)

    def test_a_thousand_instructions_without_jumps(self):
        code = [("read",)] * 160 + [("add",), ("read",)] * 300 + [("drop",)] * 160 + [("read",), ("drop",)] * 38
        code += [("read",), ("tell",), ("drop",)]
        module = module_of(function_of(name="main", own=("int",) * 20, code=tuple(code) + (("done",),)))
        self.assertEqual(verify(module), None)
        self.assertEqual(len(module[1][0][4]), 1000)
        self.lifts(module)

    def test_twenty_locals_and_a_hundred_and_sixty_values(self):
        code = [part for slot in range(20) for part in (("read",), ("store", slot))]
        code += [("read",)] * 159 + [("tell",), ("drop",), ("read",), ("read",), ("add",)] + [("drop",)] * 159
        code += [part for slot in range(20) for part in (("load", slot), ("show",))] + [("done",)]
        module = module_of(function_of(name="main", own=("int",) * 20, code=tuple(code)))
        self.assertEqual(verify(module), None)
        self.lifts(module)

    def test_forty_instructions_and_four_places_opened(self):
        chance = random.Random(2)
        for _ in range(40):
            functions = [self.random_function(chance, 8, f"f{index}", (index + 1,)) if index < 4 else
                         self.random_function(chance, 8, "f4", ()) for index in range(5)]
            module = module_of(*functions)
            self.assertEqual(verify(module), None)
            opened = tuple(sorted({place[0]: place for place in places_of(module, "call")}.values()))
            self.assertLessEqual(len(opened), 4)
            strip = self.lifts(module, 0, (), opened)
            for schedule in ((), (8, 0, 1)):
                self.assertIsNone(runs_alike(module, (), 60, (16, 8, 8, 2), schedule, (strip,)))

    def test_too_many_rows(self):
        f = function_of(name="f", code=read_code("read ; drop ; " * 29 + "done"))
        main = function_of(name="main", code=(("call", 1),) * 200 + (("done",),))
        module = module_of(main, f)
        opened = tuple((0, place) for place in range(200))
        self.assertIsNone(lift(module, 0, (), opened))
        self.lifts(module)
        self.lifts(module, 0, (), opened[:100])

    def test_too_many_registers_where_ways_meet(self):
        """Until then all is constant; then it is brought into registers."""
        for many, fits in ((80, True), (100, True), (101, False), (120, False)):
            f = function_of(name="f", code=read_code(
                "int 1 ; " * many + f"read ; int 0 ; less ; if {many + 6} ; truth true ; drop ; " + "drop ; " * many + "done"))
            main = function_of(name="main", code=read_code("int 2 ; " * 100 + "call 1 ; " + "drop ; " * 100 + "done"))
            module = module_of(main, f)
            self.assertEqual(verify(module), None)
            strip = lift(module, 0, (), ((0, 100),))
            self.assertEqual(strip is not None, fits, many)
            if fits:
                self.keeps(module, strip, (), ((0, 100),))
            self.lifts(module)
            self.lifts(module, 1)

    def test_too_many_registers(self):
        f = function_of(name="f", code=read_code("read ; " * 100 + "drop ; " * 100 + "done"))
        main = function_of(name="main", code=read_code("read ; " * 110 + "call 1 ; " + "drop ; " * 110 + "done"))
        module = module_of(main, f)
        self.assertEqual(verify(module), None)
        self.assertIsNone(lift(module, 0, (), ((0, 110),)))
        self.lifts(module)


class Refusing(unittest.TestCase):
    def refused(self, error, *told):
        with self.assertRaises(error) as caught:
            lift(*told)
        self.assertIs(type(caught.exception), error)

    def test_what_is_refused(self):
        module = tree_module("new B ; int 1 ; ask A m ; show ; call 6 ; done ; nil ; int 2 ; ask D m ; drop ; done".replace("nil ; int 2", "nil"))
        self.assertEqual(verify(module), None)
        for wrong in (None, (), ((), (), 0, 0), [], 0):
            self.refused(BadModule, wrong, None, None, None)
        self.refused(NotVerified, with_code(("drop",), ("done",)), None, None, None)
        for function in (None, True, False, -1, 8, "0", (0,)):
            self.refused(BadIndex, module, function, None, None)
        ask = (0, 2)
        for guesses in (None, [], 0, "", (None,), ([0, 2, "B"],), (ask,), (ask + ("B", 0),), (ask + ("D",),), (ask + ("Gone",),), (ask + (None,),), ((0, 4, "B"),),
                        ((0, 3, "B"),), ((8, 2, "B"),), ((-1, 2, "B"),), ((0, 99, "B"),), ((0, -1, "B"),), ((False, 2, "B"),), ((0, True, "B"),), (ask + ("B",), ask + ("E",)),
                        (ask + ("B",),) * 2, ((0, 7, "D"), ask + ("B",)), (("0", 2, "B"),), ((0, None, "B"),), (ask + (("B",),),)):
            self.refused(BadGuesses, module, 0, guesses, None)
        for opened in (None, [], 0, (None,), ([0, 2],), (ask + ("B",),), ((0,),), ((0, 3),), ((8, 0),), ((0, 99),), ((0, 9),), ((0, 10),), ((-1, 0),), ((False, 2),), ((0, True),), (ask, ask),
                       ((0, 4), (0, 2)), (("0", 2),), ((0, None),)):
            self.refused(BadOpened, module, 0, (), opened)
            self.refused(BadOpened, module, 0, (ask + ("E",),), opened)
        # A place that cannot be come to may stand among both.
        self.assertTrue(strip_holds(module, lift(module, 0, (ask + ("B",), (0, 7, "D")), (ask, (0, 4), (0, 7)))))


if __name__ == "__main__":
    unittest.main()
