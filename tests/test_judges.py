"""The judge of pictures: sound ones, and sound ones with something bent."""

import unittest

from movedrun.errors import BadPicture, BadShapes, BadSizes
from movedrun.heaps import Heap, heap_of
from movedrun.judges import is_sound

SHAPES = ((), (True, False))
SIZES = (20, 10, 8, 3)
OLD = 41


def marking_heap():
    """A heap with something in each room, remembered slots, and all colours; the roots of it."""
    heap = Heap(SHAPES, SIZES)
    great, _ = heap.make(-2, 7, ())
    one, roots = heap.make(1, 2, (great,))
    heap.put(great, 0, one)
    heap.make(-1, 7, ())
    roots = heap.begin((great,))
    roots = heap.slice(1, roots)
    young, roots = heap.make(1, 2, roots)
    heap.put(young, 0, young)
    heap.put(great, 1, young)
    roots = heap.minor(roots + (young,))
    text, roots = heap.make(-3, 2, roots)
    heap.put(great, 6, text)
    return heap, roots


class Judging(unittest.TestCase):
    def setUp(self):
        heap, self.roots = marking_heap()
        self.picture = heap.picture()

    def sound(self, picture, roots=()):
        found = is_sound(SHAPES, SIZES, picture, roots)
        self.assertIsInstance(found, bool)
        if roots == ():
            if found:
                self.assertEqual(heap_of(SHAPES, SIZES, picture).picture(), picture)
            else:
                with self.assertRaises(BadPicture):
                    heap_of(SHAPES, SIZES, picture)
        return found

    def bent(self, part, value):
        return self.picture[:part] + (value,) + self.picture[part + 1:]

    def bent_word(self, part, at, word):
        words = self.picture[part]
        return self.bent(part, words[:at] + (word,) + words[at + 1:])

    def test_the_picture_itself(self):
        self.assertEqual(self.picture, (
            (0, 2, 0, 0), 0, (260, 2, 21, 0),
            (66, 7, 59, 21, 0, 0, 0, 0, 1, 128, 7, 0, 0, 0, 0, 0, 0, 0, 257, 2, 0, 0), (44, 49), (59,), True))
        self.assertTrue(self.sound(self.picture))
        self.assertTrue(self.sound(self.picture, self.roots))
        self.assertTrue(self.sound(Heap(SHAPES, SIZES).picture()))
        self.assertTrue(is_sound(shapes=SHAPES, sizes=SIZES, thing=self.picture, roots=self.roots))

    def test_wrong_shapes_and_sizes_raise(self):
        for shapes in (None, [], ((1,),), ((),) * 61):
            with self.assertRaises(BadShapes):
                is_sound(shapes, None, None, None)
        for sizes in (None, (20, 10, 8), (20, 10, 8, True), (15, 10, 8, 3)):
            with self.assertRaises(BadSizes):
                is_sound(SHAPES, sizes, None, None)

    def test_what_has_not_the_form(self):
        for thing in (None, True, 5, "", (), [], list(self.picture), self.picture + (0,), self.picture[1:]):
            self.assertFalse(self.sound(thing))
        for part in range(7):
            for value in (None, [], "", (None,), (True,), ((),), 2, -1, ("1",), (2 ** 31,), (-2 ** 31 - 1,)):
                with self.subTest(part=part, value=value):
                    self.assertFalse(self.sound(self.bent(part, value)))
        self.assertFalse(self.sound(self.bent(1, False)))
        self.assertFalse(self.sound(self.bent(6, 1)))
        for part in (0, 2, 3, 4, 5):
            self.assertFalse(self.sound(self.bent(part, list(self.picture[part]))))

    def test_each_word_bent(self):
        """Every one of these words matters, but those of plain slots."""
        plain = {(0, 2), (0, 3), (2, 3), (3, 21)} | {(3, at) for at in range(11, 18)}
        for part in (0, 2, 3):
            for at, word in enumerate(self.picture[part]):
                for other in (word + 1, word - 1, word + 4, word + 64, -word - 1, 2 ** 31 - 1, -2 ** 31):
                    with self.subTest(part=part, at=at, other=other):
                        found = self.sound(self.bent_word(part, at, other))
                        if (part, at) in plain:
                            self.assertTrue(found)
                        else:
                            # A row of references in the text's place, and an older object in the half.
                            self.assertEqual(found, (part, at, other) in ((0, 0, 64), (2, 0, 264)))

    def test_truths_are_no_words(self):
        for part in (0, 2, 3, 4, 5):
            for at, word in enumerate(self.picture[part]):
                if word in (0, 1):
                    self.assertFalse(self.sound(self.bent_word(part, at, bool(word))))

    def test_references(self):
        for word in (1, 21, OLD, OLD + 18):
            # The slot is remembered, just if it holds a young one.
            self.assertEqual(self.sound(self.bent_word(3, 3, word)), word < OLD and word > 0)
        for word in (2, 5, 22, 31, OLD + 1, 100):
            self.assertFalse(self.sound(self.bent_word(3, 3, word)))
            self.assertFalse(self.sound(self.bent_word(2, 2, word)))
        # A white one of the old room, held by a black one.
        self.assertFalse(self.sound(self.bent_word(3, 4, OLD + 9)))
        self.assertTrue(self.sound(self.bent_word(3, 4, OLD + 18)))
        self.assertTrue(self.sound(self.bent_word(3, 20, OLD + 9)))

    def test_remembered(self):
        for remembered in ((), (44,), (49,), (49, 44), (44, 44, 49), (44, 49, 50), (43, 44, 49)):
            self.assertFalse(self.sound(self.bent(4, remembered)))

    def test_grey_row(self):
        for grey in ((), (59, 59), (41,), (59, 41), (41, 59), (50,), (59, 60), (1,), (0,), (59, None), ("a", 59), (59, (59,))):
            self.assertFalse(self.sound(self.bent(5, grey)))

    def test_two_grey_ones_in_any_sequence(self):
        heap = Heap(SHAPES, SIZES)
        one, _ = heap.make(-1, 7, ())
        two, _ = heap.make(-1, 7, ())
        heap.begin((two, one))
        picture = heap.picture()
        self.assertEqual(picture[5], (two, one))
        self.assertTrue(self.sound(picture))
        self.assertTrue(self.sound(picture[:5] + ((one, two), True)))
        self.assertFalse(self.sound(picture[:5] + ((one,), True)))

    def test_at_rest_all_is_white(self):
        heap = Heap(SHAPES, SIZES)
        heap.make(-1, 7, ())
        picture = heap.picture()
        self.assertTrue(self.sound(picture))
        self.assertTrue(self.sound(picture[:6] + (True,)))
        for colour in (1, 2, 3):
            old = (128 + colour,) + picture[3][1:]
            self.assertFalse(self.sound(picture[:3] + (old,) + picture[4:]))
        self.assertTrue(self.sound(picture[:3] + ((130,) + picture[3][1:],) + picture[4:6] + (True,)))
        self.assertFalse(self.sound(picture[:5] + ((OLD,), False)))

    def test_the_other_half(self):
        """The reference to what lies in the half leads to nothing in the other one."""
        self.assertFalse(self.sound(self.bent(1, 1)))
        for half in (-1, 0, 1, 2):
            self.assertEqual(self.sound(((), half, (), (), (), (), False)), half in (0, 1))

    def test_no_black_object_holds_a_white_one(self):
        """The white one may be the first one of the old room, but not held by a black one."""
        for colours, right in (((0, 2), False), ((0, 0), True), ((2, 2), True), ((2, 0), True)):
            old = (192 + colours[0], 0, 64 + colours[1], 1, OLD)
            self.assertEqual(self.sound(((), 0, (), old, (), (), True)), right, colours)
            old = (64 + colours[1], 1, OLD + 3, 192 + colours[0], 0)
            self.assertEqual(self.sound(((), 0, (), old, (), (), True)), right, colours)

    def test_rooms_hold_no_more_than_there_is_room(self):
        full = (192, 0) * 10
        self.assertTrue(self.sound((full, 0, (), (), (), (), False)))
        self.assertFalse(self.sound((full + (192, 0), 0, (), (), (), (), False)))
        half = (196, 0) * 5
        self.assertTrue(self.sound(((), 1, half, (), (), (), False)))
        self.assertFalse(self.sound(((), 1, half + (196, 0), (), (), (), False)))
        self.assertTrue(self.sound(((), 1, (), (192, 0) * 100, (), (), False)))

    def test_great_ones_lie_in_the_old_room_alone(self):
        for kind in (128, 64, 0):
            just, more = (kind, 6) + (0,) * 6, (kind, 7) + (0,) * 7
            self.assertTrue(self.sound((just, 0, (), more + just, (), (), False)))
            self.assertFalse(self.sound((more, 0, (), (), (), (), False)))
            self.assertTrue(self.sound(((), 0, (kind + 4,) + just[1:], (), (), (), False)))
            self.assertFalse(self.sound(((), 0, (kind + 4,) + more[1:], (), (), (), False)))

    def test_ages(self):
        for age in range(16):
            self.assertEqual(self.sound(((), 0, (192 + 4 * age, 0), (), (), (), False)), age in (1, 2))
            self.assertEqual(self.sound(((192 + 4 * age, 0), 0, (), (), (), (), False)), age == 0)
            self.assertEqual(self.sound(((), 0, (), (192 + 4 * age, 0), (), (), False)), age == 0)

    def test_slots(self):
        for many in (0, 1, 1000, 1001):
            old = (128, many) + (7,) * many
            self.assertEqual(self.sound(((), 0, (), old, (), (), False)), many <= 1000)
            self.assertFalse(self.sound(((), 0, (), old[:-1], (), (), False)))
        self.assertFalse(self.sound(((), 0, (), (256, 1, 0), (), (), False)))
        self.assertFalse(self.sound(((), 0, (), (256, 3, 0, 0, 0), (), (), False)))
        self.assertFalse(self.sound(((), 0, (), (128, -1), (), (), False)))
        self.assertFalse(self.sound(((), 0, (), (320, 0), (), (), False)))

    def test_roots(self):
        for roots in (self.roots, (0,), (0, OLD, OLD, 1, 21), (0,) * 40000):
            self.assertTrue(self.sound(self.picture, roots))
        for roots in (None, [], [OLD], (2,), (True,), (None,), (OLD, 5), (0,) * 40001, "", 0, (False,)):
            self.assertFalse(self.sound(self.picture, roots))

    def test_shared_parts_are_looked_at_soon(self):
        thing = ()
        for _ in range(55):
            thing = (thing, thing)
        for part in range(7):
            self.assertFalse(self.sound(self.bent(part, thing)))
            self.assertFalse(self.sound(self.bent(part, (thing,) * 1000)))
        self.assertFalse(self.sound((thing,) * 7))
        self.assertFalse(is_sound(SHAPES, SIZES, self.picture, (thing,)))


if __name__ == "__main__":
    unittest.main()
