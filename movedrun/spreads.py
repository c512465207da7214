"""What is told of each place of a function, spread along all ways until nothing changes any more."""

from movedrun.errors import NotVerified
from movedrun.known import places_behind


class Spread:
    """A way through a function's code; a class below it tells what comes behind an instruction, and what meets.

    Such a class has behind(place, told): what is told of the next places, None for nothing at all;
    caught(catch, told): what is told of a catch's to, of what is told of a place of its range;
    and meet(one, other): what two ways tell together.
    """

    def __init__(self, known, index, first):
        self.known = known
        self.index = index
        self.function = known.functions[index]
        self.code = self.function[4]
        self.catches = self.function[5]
        # None for a place that cannot be come to.
        self.told = [None] * len(self.code)
        self.waiting = []
        self.give(0, first)
        while self.waiting:
            self.go_on(self.waiting.pop())

    def give(self, place, told):
        ahead = self.told[place]
        if ahead is not None:
            told = self.meet(ahead, told)
        if told != ahead:
            self.told[place] = told
            self.waiting.append(place)

    def go_on(self, place):
        told = self.told[place]
        for catch in self.catches:
            if catch[0] <= place < catch[1]:
                self.give(catch[2], self.caught(catch, told))
        behind = self.behind(place, told)
        if behind is not None:
            for other in places_behind(self.code, place):
                self.give(other, behind)

    def come_to(self):
        """The places that can be come to, ascending."""
        return [place for place, told in enumerate(self.told) if told is not None]

    def refuse(self, word, place):
        raise NotVerified((word, self.index, place))
