"""Instructions as runs need them: what each bears is looked up once, not each time that it is done."""

from movedrun.actions import ACTIONS, work
from movedrun.effects import puts, taken
from movedrun.family import NIL, entry_of
from movedrun.works import WORKS, add_texts, show_text

MAKING = ("call", "ask", "new", "row", "text", "tell")


class Op:
    """An instruction: what it bears as runs need it, how many values it takes and puts, and its rules.

    is_anchor tells whether it is one at which the machine takes a deed of its schedule.
    """

    def __init__(self, word, borne, takes, many):
        self.word = word
        self.borne = borne
        self.takes = takes
        self.puts = many
        self.action = ACTIONS.get(word, work)
        self.work = WORKS.get(word)
        self.is_anchor = word in MAKING


class Codes:
    """The code of a verified module, each function's made when it is asked for first."""

    def __init__(self, known):
        self.known = known
        self.found = {}
        self.below = {}
        self.slots = {}
        for name in known.names():
            self.below[name] = {each: True for each in known.below(name)}
            self.slots[name] = {}
            for slot, (field, kind) in enumerate(known.fields(name)):
                self.slots[name][field] = (slot, kind)

    def code(self, index):
        """A function's instructions by place, None where no run comes."""
        if index not in self.found:
            code = self.known.functions[index][4]
            kinds = self.known.kinds[index]
            self.found[index] = [
                None if kinds[place] is None else self.op(index, place) for place in range(len(code))
            ]
        return self.found[index]

    def op(self, index, place):
        function = self.known.functions[index]
        kinds = self.known.kinds[index][place]
        instruction = function[4][place]
        word = instruction[0]
        takes = len(taken(self.known, function, instruction))
        op = Op(word, self.borne(instruction, kinds), takes, puts(self.known, instruction))
        if word == "add" and takes_texts(kinds):
            op.work = add_texts
            op.is_anchor = True
        if word == "show" and takes_texts(kinds):
            op.work = show_text
        if word == "jump" or word == "if":
            op.is_anchor = op.borne <= place
        return op

    def borne(self, instruction, kinds):
        word = instruction[0]
        if word == "ask":
            return self.known.methods_below(instruction[1], instruction[2])
        if word == "get" or word == "put":
            return self.slots[instruction[1]][instruction[2]]
        if word == "is" or word == "as":
            return self.below[instruction[1]]
        if word == "at":
            return entry_of(kinds[-2])
        if word == "set":
            return entry_of(kinds[-3])
        return instruction[1] if len(instruction) > 1 else None


def takes_texts(kinds):
    """Whether an add or a show at a stack of these kinds is one of texts."""
    return kinds[-1] == "text" or kinds[-1] == NIL
