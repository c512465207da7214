"""The look at which params and locals are set at each place of a function."""

from movedrun.spreads import Spread


class SetSlots(Spread):
    """Tells of a place the ascending tuple of what is set on all ways to it."""

    def __init__(self, known, index):
        super().__init__(known, index, tuple(range(len(known.functions[index][1]))))

    def behind(self, place, told):
        instruction = self.code[place]
        if instruction[0] != "store" or instruction[1] in told:
            return told
        return tuple(sorted([*told, instruction[1]]))

    def caught(self, catch, told):
        return told

    def meet(self, one, other):
        return tuple([slot for slot in one if slot in other])

    def look(self):
        """Raises NotVerified for the least place at which something is wrong."""
        for place in self.come_to():
            instruction = self.code[place]
            if instruction[0] == "load" and instruction[1] not in self.told[place]:
                self.refuse("unset", place)

    def table_beside(self, kinds):
        """What is set at each place that has kinds, None at all others."""
        return tuple([None if kinds[place] is None else told for place, told in enumerate(self.told)])
