"""The look at how many values lie on the stack at each place of a function."""

from movedrun.effects import puts, taken
from movedrun.spreads import Spread

MOST_HEIGHT = 160


class Heights(Spread):
    """Tells of a place all its heights as the bits of a number: bit 3 is set if it is come to with three values."""

    def __init__(self, known, index):
        super().__init__(known, index, 1)

    def behind(self, place, told):
        room = (1 << (MOST_HEIGHT + 1)) - 1
        heights = self.heights_behind(place, told) & room
        return None if heights == 0 else heights

    def heights_behind(self, place, told):
        """Also those that are too great; what is not enough for the instruction falls away."""
        enough = told >> self.takes(place)
        return enough << puts(self.known, self.code[place])

    def caught(self, catch, told):
        return 1 << 1

    def meet(self, one, other):
        return one | other

    def takes(self, place):
        return len(taken(self.known, self.function, self.code[place]))

    def look(self):
        """Raises NotVerified for the least place at which something is wrong."""
        for place in self.come_to():
            told = self.told[place]
            least = 1 << self.takes(place)
            if self.heights_behind(place, told).bit_length() > MOST_HEIGHT + 1:
                self.refuse("tall", place)
            if told & (least - 1) != 0:
                self.refuse("short", place)
            # Here each height is enough: so for done any other one is more than it takes.
            if told & (told - 1) != 0 or (self.code[place][0] == "done" and told != least):
                self.refuse("height", place)

    def table(self):
        """Of a function that was let by: the height of each place, None where it cannot be come to."""
        return tuple([None if told is None else told.bit_length() - 1 for told in self.told])
