"""A second heap, told by objects instead of words: where each one lies is reckoned from its room when it is asked for."""

WHITE, GREY, BLACK = 0, 1, 2


class Lying:
    """An object; its reference slots hold objects or None."""

    def __init__(self, kind, slots):
        self.kind = kind
        self.slots = slots
        self.age = 0
        self.colour = WHITE
        self.is_old = False


class NaiveHeap:
    """Roots are lists of objects, or None."""

    def __init__(self, shapes, sizes):
        self.shapes = shapes
        self.nursery_words, self.half_words, self.great, self.age = sizes
        self.nursery = []
        self.halves = [[], []]
        self.half = 0
        self.old = []
        self.grey = []
        self.marking = False
        # How many whole collections have ended.
        self.ends = 0

    def links(self, kind, many):
        if kind >= 0:
            return [index for index, truth in enumerate(self.shapes[kind]) if truth]
        return list(range(many)) if kind == -2 else []

    def held(self, thing):
        return [thing.slots[index] for index in self.links(thing.kind, len(thing.slots))]

    def words(self, room):
        return sum(2 + len(thing.slots) for thing in room)

    def make(self, kind, slots, roots):
        links = self.links(kind, slots)
        thing = Lying(kind, [None if index in links else 0 for index in range(slots)])
        if 2 + slots > self.great:
            thing.is_old = True
            thing.colour = BLACK if self.marking else WHITE
            self.old.append(thing)
            return thing
        if self.words(self.nursery) + 2 + slots > self.nursery_words:
            self.minor(roots)
        self.nursery.append(thing)
        return thing

    def put(self, thing, slot, value):
        thing.slots[slot] = value
        if self.marking and thing.is_old and isinstance(value, Lying):
            self.shade(value)

    def shade(self, thing):
        if thing is not None and thing.is_old and thing.colour == WHITE:
            thing.colour = GREY
            self.grey.append(thing)

    def remembered_things(self):
        return [value for thing in self.old for value in self.held(thing) if value is not None and not value.is_old]

    def minor(self, roots, settles=False):
        queue = list(roots) + self.remembered_things()
        self.to_half, self.to_old, self.moved = [], [], set()
        for thing in queue:
            self.move(thing, settles)
        led_half = led_old = 0
        while led_half < len(self.to_half) or led_old < len(self.to_old):
            if led_half < len(self.to_half):
                thing, led_half = self.to_half[led_half], led_half + 1
            else:
                thing, led_old = self.to_old[led_old], led_old + 1
            for value in self.held(thing):
                self.move(value, settles)
        self.nursery = []
        self.halves[self.half] = []
        self.half = 1 - self.half
        self.halves[self.half] = self.to_half

    def move(self, thing, settles):
        if thing is None or id(thing) in self.moved or thing.is_old:
            return
        self.moved.add(id(thing))
        fits = self.words(self.to_half) + 2 + len(thing.slots) <= self.half_words
        if not settles and thing.age + 1 < self.age and fits:
            thing.age += 1
            self.to_half.append(thing)
            return
        thing.age = 0
        thing.is_old = True
        self.to_old.append(thing)
        self.old.append(thing)
        if self.marking:
            thing.colour = GREY
            self.grey.append(thing)

    def settle(self, roots):
        self.minor(roots, True)

    def begin(self, roots):
        self.minor(roots, True)
        self.marking = True
        for thing in roots:
            self.shade(thing)

    def slice(self, count, roots):
        if not self.marking:
            self.begin(roots)
        while count > 0 and self.grey:
            count -= 1
            self.blacken()
        if not self.grey:
            self.end(roots)

    def blacken(self):
        thing = self.grey.pop(0)
        thing.colour = BLACK
        for value in self.held(thing):
            self.shade(value)

    def end(self, roots):
        self.minor(roots, True)
        for thing in roots:
            self.shade(thing)
        while self.grey:
            self.blacken()
        self.old = [thing for thing in self.old if thing.colour == BLACK]
        for thing in self.old:
            thing.colour = WHITE
        self.marking = False
        self.ends += 1

    def whole(self, roots):
        if not self.marking:
            self.begin(roots)
        while self.grey:
            self.blacken()
        self.end(roots)

    def addresses(self):
        found = {}
        firsts = (1, self.nursery_words + 1, self.nursery_words + self.half_words + 1)
        rooms = [(firsts[0], self.nursery), (firsts[1 + self.half], self.halves[self.half]),
                 (self.nursery_words + 2 * self.half_words + 1, self.old)]
        for address, room in rooms:
            for thing in room:
                found[thing] = address
                address += 2 + len(thing.slots)
        return found

    def picture(self):
        at = self.addresses()
        rooms = []
        for room in (self.nursery, self.halves[self.half], self.old):
            words = []
            for thing in room:
                words += [(thing.kind + 3) * 64 + thing.age * 4 + thing.colour, len(thing.slots)]
                links = self.links(thing.kind, len(thing.slots))
                words += [(0 if value is None else at[value]) if index in links else value
                          for index, value in enumerate(thing.slots)]
            rooms.append(tuple(words))
        remembered = [at[thing] + 2 + index for thing in self.old for index in self.links(thing.kind, len(thing.slots))
                      if thing.slots[index] is not None and not thing.slots[index].is_old]
        return (rooms[0], self.half, rooms[1], rooms[2], tuple(remembered),
                tuple(at[thing] for thing in self.grey), self.marking)

    def roots(self, things):
        at = self.addresses()
        return tuple(0 if thing is None else at[thing] for thing in things)
