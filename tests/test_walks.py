"""Long rows of makes, puts, gets and collections: each picture is that of a second heap told by objects, and sound.

A plain heap goes along: whatever is collected, the graphs are alike.
"""

import random
import unittest

from movedrun.errors import Marking
from movedrun.heaps import Heap, heap_of
from movedrun.judges import is_sound
from movedrun.plains import PlainHeap, alike
from tests.naiveheap import Lying, NaiveHeap

SHAPES = ((True, False), (), (False, True, True), (True,) * 5)
SIZES = ((16, 16, 16, 2), (16, 0, 4, 1), (40, 20, 10, 3), (64, 64, 20, 7), (16, 7, 5, 2), (24, 4096, 24, 4))


class Walk:
    """A heap and a naive one, with the same roots held of both."""

    def __init__(self, test, seed):
        self.test = test
        self.random = random.Random(seed)
        self.sizes = SIZES[seed % len(SIZES)]
        self.heap = Heap(SHAPES, self.sizes)
        self.naive = NaiveHeap(SHAPES, self.sizes)
        self.plain = PlainHeap(SHAPES)
        self.roots = ()
        self.things = []
        self.numbers = ()

    def go(self, many):
        steps = (self.make,) * 5 + (self.put,) * 6 + (self.get,) * 2 + (
            self.minor, self.settle, self.begin, self.slice, self.slice, self.whole, self.drop, self.renew)
        for _ in range(many):
            self.random.choice(steps)()
            self.look()
        self.last()

    def look(self):
        picture = self.heap.picture()
        self.test.assertEqual(picture, self.naive.picture())
        self.test.assertEqual(self.roots, self.naive.roots(self.things))
        self.test.assertTrue(is_sound(SHAPES, self.sizes, picture, self.roots))
        counts = self.heap.counts()
        numbers, things = self.heap.graph(self.roots)
        self.test.assertEqual(self.heap.unreached(self.roots), sum(counts[3:]) - len(things))
        rooms = (self.naive.nursery, self.naive.halves[self.naive.half], self.naive.old)
        self.test.assertEqual(counts, tuple(len(picture[at]) for at in (0, 2, 3)) + tuple(len(room) for room in rooms))
        self.test.assertEqual((numbers, things), self.graph())
        self.test.assertEqual(self.plain.graph(self.numbers), (numbers, things))
        self.test.assertIs(alike(self.heap, self.roots, self.plain, self.numbers), True)

    def graph(self):
        found = []

        def number(thing):
            if thing is None:
                return 0
            if thing not in found:
                found.append(thing)
            return found.index(thing) + 1

        numbers = tuple(number(thing) for thing in self.things)
        things = []
        for thing in found:
            links = self.naive.links(thing.kind, len(thing.slots))
            things.append((thing.kind, tuple(
                number(value) if index in links else value for index, value in enumerate(thing.slots))))
        return numbers, tuple(things)

    def make(self):
        kind = self.random.randrange(-3, len(SHAPES))
        slots = len(SHAPES[kind]) if kind >= 0 else self.random.choice((0, 1, 2, 2, 3, 3, 8, 14, 23))
        address, self.roots = self.heap.make(kind, slots, self.roots)
        self.things.append(self.naive.make(kind, slots, self.things))
        self.roots += (address,)
        number, self.numbers = self.plain.make(kind, slots, self.numbers)
        self.numbers += (number,)

    def choice(self):
        """A held object with slots, and one of them."""
        held = [at for at, thing in enumerate(self.things) if thing is not None and thing.slots]
        if not held:
            return None
        at = self.random.choice(held)
        return at, self.random.randrange(len(self.things[at].slots))

    def put(self):
        chosen = self.choice()
        if chosen is None:
            return
        at, slot = chosen
        thing = self.things[at]
        if slot in self.naive.links(thing.kind, len(thing.slots)):
            other = self.random.randrange(-1, len(self.things))
            word, value = (0, None) if other < 0 else (self.roots[other], self.things[other])
            number = 0 if other < 0 else self.numbers[other]
        else:
            number = word = value = self.random.choice((0, 1, -2 ** 31, 2 ** 31 - 1, 7))
        self.test.assertIsNone(self.heap.put(self.roots[at], slot, word))
        self.test.assertIsNone(self.plain.put(self.numbers[at], slot, number))
        self.naive.put(thing, slot, value)

    def get(self):
        chosen = self.choice()
        if chosen is None:
            return
        at, slot = chosen
        word, value = self.heap.get(self.roots[at], slot), self.things[at].slots[slot]
        number = self.plain.get(self.numbers[at], slot)
        if isinstance(value, Lying):
            self.roots += (word,)
            self.numbers += (number,)
            self.things.append(value)
        else:
            self.test.assertEqual((word, number), (value or 0, value or 0))

    def minor(self):
        young = sum(self.heap.counts()[:2])
        old = self.heap.counts()[2]
        self.roots = self.heap.minor(self.roots)
        self.naive.minor(self.things)
        self.test.assertEqual(self.heap.counts()[0], 0)
        # The old room grows by what was young at most.
        self.test.assertLessEqual(self.heap.counts()[2], old + young)

    def settle(self):
        self.roots = self.heap.settle(self.roots)
        self.naive.settle(self.things)
        self.test.assertEqual(self.heap.counts()[:2], (0, 0))
        self.test.assertEqual(self.heap.remembered(), ())

    def begin(self):
        if self.heap.is_marking():
            with self.test.assertRaises(Marking):
                self.heap.begin(self.roots)
            return
        self.roots = self.heap.begin(self.roots)
        self.naive.begin(self.things)
        self.test.assertTrue(self.heap.is_marking())

    def slice(self):
        # As many as there are in the old room are enough to end it, if it does not begin just then.
        many = self.heap.counts()[5] if self.heap.is_marking() else 10 ** 6
        count = self.random.choice((0, 1, 2, 7, many))
        self.roots = self.heap.slice(count, self.roots)
        self.naive.slice(count, self.things)
        if count == many:
            self.test.assertFalse(self.heap.is_marking())

    def whole(self):
        at_rest = not self.heap.is_marking()
        self.roots = self.heap.whole(self.roots)
        self.naive.whole(self.things)
        self.test.assertFalse(self.heap.is_marking())
        self.test.assertEqual(self.heap.counts()[:2], (0, 0))
        self.test.assertEqual(self.heap.remembered(), ())
        if at_rest:
            # Just what is reached is left, side by side.
            _, things = self.heap.graph(self.roots)
            self.test.assertEqual(self.heap.unreached(self.roots), 0)
            self.test.assertEqual(self.heap.counts()[2], sum(2 + len(body) for _, body in things))

    def drop(self):
        if len(self.things) > 6:
            kept = sorted(self.random.sample(range(len(self.things)), 6))
            self.roots = tuple(self.roots[at] for at in kept)
            self.numbers = tuple(self.numbers[at] for at in kept)
            self.things = [self.things[at] for at in kept]

    def renew(self):
        """A heap of its picture goes on as it does."""
        self.heap = heap_of(SHAPES, self.sizes, self.heap.picture())

    def last(self):
        """What is not reached outlives no two whole collections; a further one changes nothing."""
        self.roots = self.heap.whole(self.heap.whole(self.roots))
        self.test.assertEqual(self.heap.unreached(self.roots), 0)
        picture, roots = self.heap.picture(), self.roots
        self.test.assertEqual(self.heap.whole(roots), roots)
        self.test.assertEqual(self.heap.picture(), picture)


class Walks(unittest.TestCase):
    def test_walks(self):
        for seed in range(60):
            with self.subTest(seed=seed):
                Walk(self, seed).go(200)


if __name__ == "__main__":
    unittest.main()
