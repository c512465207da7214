"""The heap's deeds one by one: what is refused, where things lie, and what each collection leaves."""

import unittest

from movedrun.errors import (
    BadAddress, BadCount, BadKind, BadPicture, BadRoots, BadShapes, BadSize, BadSizes, BadSlot, BadValue, Marking
)
from movedrun.heaps import Heap, heap_of

SHAPES = ((), (True, False), (False, True))
SIZES = (20, 10, 8, 3)
NO_INTEGERS = (None, True, False, "1", (1,), [1])
NO_TUPLES = (None, 0, True, "", [], {})


def head(kind, age=0, colour=0):
    return (kind + 3) * 64 + age * 4 + colour


def first_old(sizes):
    return sizes[0] + 2 * sizes[1] + 1


class Heaping(unittest.TestCase):
    def refused(self, error, deed, *told, **named):
        with self.assertRaises(error) as caught:
            deed(*told, **named)
        self.assertIs(type(caught.exception), error)


class Forms(Heaping):
    def test_shapes(self):
        wrong = NO_TUPLES + (
            ([],), (True,), ((1,),), ((None,),), (((),),), ((True, 0),), ((),) * 61, ((True,) * 101,), (None,))
        for shapes in wrong:
            with self.subTest(shapes=shapes):
                self.refused(BadShapes, Heap, shapes, SIZES)
                self.refused(BadShapes, Heap, shapes, None)
                self.refused(BadShapes, heap_of, shapes, None, None)
        self.assertEqual(Heap((), SIZES).counts(), (0,) * 6)
        self.assertEqual(Heap(((True,) * 100,) * 60, SIZES).make(59, 100, ())[0], first_old(SIZES))

    def test_sizes(self):
        wrong = NO_TUPLES + (
            (20, 10, 8), (20, 10, 8, 3, 1), [20, 10, 8, 3], (15, 10, 8, 3), (4097, 10, 8, 3), (20, -1, 8, 3),
            (20, 4097, 8, 3), (20, 10, 3, 3), (20, 10, 21, 3), (20, 10, 8, 0), (20, 10, 8, 8), (True, 10, 8, 3),
            (20, False, 8, 3), (20, 10, 8, True), (20, 10, 8, None), ("20", 10, 8, 3))
        for sizes in wrong:
            with self.subTest(sizes=sizes):
                self.refused(BadSizes, Heap, SHAPES, sizes)
                self.refused(BadSizes, heap_of, SHAPES, sizes, None)
        for sizes in ((16, 0, 4, 1), (4096, 4096, 4096, 7), (16, 1, 16, 7)):
            self.assertEqual(Heap(shapes=SHAPES, sizes=sizes).counts(), (0,) * 6)

    def test_kinds_and_sizes_of_what_is_made(self):
        heap = Heap(SHAPES, SIZES)
        for kind in NO_INTEGERS + (-4, 3):
            self.refused(BadKind, heap.make, kind, None, None)
        for kind, slots in ((0, 1), (0, -1), (1, 1), (1, 3), (-1, -1), (-1, 1001), (-2, 1001), (-3, 1001), (-3, -1)):
            self.refused(BadSize, heap.make, kind, slots, None)
        for slots in NO_INTEGERS:
            self.refused(BadSize, heap.make, -1, slots, None)
        # As many as its class's fields, but a truth is no integer.
        self.refused(BadSize, Heap(((True,),), SIZES).make, 0, True, ())
        self.refused(BadSize, Heap(((),), SIZES).make, 0, False, ())
        self.assertEqual(heap.counts(), (0,) * 6)

    def test_roots(self):
        heap = Heap(SHAPES, SIZES)
        one, _ = heap.make(kind=1, slots=2, roots=())
        wrong = NO_TUPLES + ([one], (one + 1,), (-1,), (True,), (None,), (one, 5), ((one,),), (0,) * 40001, (False,))
        deeds = (lambda roots: heap.make(0, 0, roots), heap.graph, heap.unreached, heap.minor, heap.settle, heap.begin,
                 lambda roots: heap.slice(1, roots), heap.whole)
        for deed in deeds:
            for roots in wrong:
                self.refused(BadRoots, deed, roots)
        self.assertEqual(heap.counts(), (4, 0, 0, 1, 0, 0))
        self.assertEqual(heap.minor(roots=(0,) * 40000), (0,) * 40000)

    def test_addresses_slots_and_values(self):
        heap = Heap(SHAPES, SIZES)
        one, _ = heap.make(1, 2, ())
        two, _ = heap.make(-1, 1, (one,))
        self.assertEqual((one, two), (1, 5))
        for deed in (heap.kind, heap.slots, heap.where, lambda a: heap.get(a, None), lambda a: heap.put(a, None, None)):
            for address in NO_INTEGERS + (0, 2, -1, 8, 40):
                self.refused(BadAddress, deed, address)
        for deed in (heap.get, lambda address, slot: heap.put(address, slot, None)):
            for slot in NO_INTEGERS + (-1, 2):
                self.refused(BadSlot, deed, one, slot)
        for value in NO_INTEGERS + (2, -1, 8):
            self.refused(BadValue, heap.put, one, 0, value)
        for value in NO_INTEGERS + (2 ** 31, -2 ** 31 - 1):
            self.refused(BadValue, heap.put, one, 1, value)
        self.assertIsNone(heap.put(address=one, slot=0, value=two))
        heap.put(one, 1, -2 ** 31)
        heap.put(two, 0, 2 ** 31 - 1)
        self.assertEqual(heap.get(address=one, slot=0), two)
        self.assertEqual(heap.get(one, 1), -2 ** 31)
        self.assertEqual(heap.get(two, 0), 2 ** 31 - 1)
        heap.put(one, 0, 0)
        self.assertEqual(heap.get(one, 0), 0)

    def test_an_object_that_is_gone_has_no_address(self):
        heap = Heap(SHAPES, SIZES)
        one, _ = heap.make(1, 2, ())
        heap.minor(())
        self.refused(BadAddress, heap.kind, one)
        self.refused(BadRoots, heap.graph, (one,))


class Making(Heaping):
    def test_an_object_is_its_head_and_its_slots(self):
        heap = Heap(SHAPES, SIZES)
        self.assertEqual(heap.make(1, 2, ()), (1, ()))
        self.assertEqual(heap.make(-3, 3, (0, 1, 1)), (5, (0, 1, 1)))
        self.assertEqual(heap.make(0, 0, ()), (10, ()))
        self.assertEqual(heap.picture(), (
            (head(1), 2, 0, 0, head(-3), 3, 0, 0, 0, head(0), 0), 0, (), (), (), (), False))
        self.assertEqual([heap.kind(at) for at in (1, 5, 10)], [1, -3, 0])
        self.assertEqual([heap.slots(at) for at in (1, 5, 10)], [2, 3, 0])
        self.assertEqual([heap.where(at) for at in (1, 5, 10)], ["nursery"] * 3)
        self.assertEqual(heap.counts(), (11, 0, 0, 3, 0, 0))

    def test_just_great_and_one_more(self):
        heap = Heap(SHAPES, SIZES)
        small, _ = heap.make(-2, 6, ())
        great, _ = heap.make(-2, 7, ())
        self.assertEqual((small, heap.where(small)), (1, "nursery"))
        self.assertEqual((great, heap.where(great)), (first_old(SIZES), "old"))
        self.assertEqual(heap.counts(), (8, 0, 9, 1, 0, 1))

    def test_no_slots_and_a_thousand(self):
        heap = Heap((), SIZES)
        for kind in (-1, -2, -3):
            empty, _ = heap.make(kind, 0, ())
            full, _ = heap.make(kind, 1000, ())
            self.assertEqual((heap.slots(empty), heap.slots(full)), (0, 1000))
            self.assertEqual(heap.get(full, 999), 0)
            self.refused(BadSlot, heap.get, empty, 0)
            self.refused(BadSlot, heap.get, full, 1000)

    def test_a_full_nursery_is_collected_first(self):
        heap = Heap(SHAPES, (16, 16, 8, 3))
        one, roots = heap.make(-1, 6, ())
        two, roots = heap.make(-1, 6, (one,))
        self.assertEqual((two, roots), (9, (1,)))
        heap.put(two, 0, 5)
        three, roots = heap.make(0, 0, (two, 0, two))
        # The half's room begins behind the nursery: the second half is in use now.
        self.assertEqual((three, roots), (1, (33, 0, 33)))
        self.assertEqual(heap.picture(), (
            (head(0), 0), 1, (head(-1, 1), 6, 5, 0, 0, 0, 0, 0), (), (), (), False))
        self.assertEqual(heap.where(33), "half")

    def test_a_great_object_is_black_while_marking(self):
        heap = Heap(SHAPES, SIZES)
        heap.begin(())
        great, _ = heap.make(-1, 7, ())
        heap.make(-1, 6, ())
        self.assertEqual(heap.picture()[3][0], head(-1, 0, 2))
        self.assertEqual(heap.picture()[0][0], head(-1))
        self.assertEqual(heap.slice(0, (great,)), (great,))
        self.assertEqual(heap.picture()[3][0], head(-1))


class Remembered(Heaping):
    def test_put_keeps_them_both_ways(self):
        heap = Heap(SHAPES, SIZES)
        old, _ = heap.make(-2, 7, ())
        young, _ = heap.make(1, 2, ())
        other, _ = heap.make(-2, 8, ())
        heap.put(old, 3, young)
        heap.put(other, 0, young)
        heap.put(old, 0, young)
        places = (old + 2, old + 5, other + 2)
        self.assertEqual(heap.remembered(), places)
        self.assertEqual(heap.picture()[4], places)
        heap.put(old, 3, other)
        heap.put(old, 0, 0)
        self.assertEqual(heap.remembered(), (other + 2,))
        # A plain slot that holds the same word is none.
        plain, _ = heap.make(-1, 9, ())
        heap.put(plain, 0, young)
        heap.put(young, 0, young)
        self.assertEqual(heap.remembered(), (other + 2,))

    def test_what_is_reached_through_the_old_room_alone_is_moved(self):
        heap = Heap(SHAPES, SIZES)
        old, _ = heap.make(-2, 7, ())
        young, _ = heap.make(-1, 1, ())
        heap.put(young, 0, 9)
        heap.put(old, 2, young)
        self.assertEqual(heap.minor(()), ())
        moved = heap.get(old, 2)
        self.assertEqual((heap.where(moved), heap.get(moved, 0)), ("half", 9))
        self.assertEqual(heap.remembered(), (old + 4,))
        heap.minor(())
        heap.minor(())
        self.assertEqual((heap.where(heap.get(old, 2)), heap.remembered()), ("old", ()))


class Minors(Heaping):
    def ages(self, age):
        """Where an object lies behind each minor collection, until it is old."""
        heap = Heap(SHAPES, (16, 16, 8, age))
        address, _ = heap.make(0, 0, ())
        found = []
        while heap.where(address) != "old":
            address, = heap.minor((address,))
            found.append((heap.where(address), heap.picture()[1]))
        return found

    def test_ages(self):
        self.assertEqual(self.ages(1), [("old", 1)])
        self.assertEqual(self.ages(2), [("half", 1), ("old", 0)])
        self.assertEqual(self.ages(7), [("half", at) for at in (1, 0, 1, 0, 1, 0)] + [("old", 1)])

    def test_halves_of_no_words(self):
        heap = Heap(SHAPES, (16, 0, 8, 7))
        one, _ = heap.make(1, 2, ())
        self.assertEqual(heap.minor((one, one, 0)), (17, 17, 0))
        self.assertEqual(heap.picture(), ((), 1, (), (head(1), 2, 0, 0), (), (), False))

    def test_what_does_not_fit_in_the_half_gets_old_and_the_next_one_may_fit(self):
        heap = Heap(SHAPES, (30, 7, 8, 3))
        first, _ = heap.make(-1, 2, ())
        second, _ = heap.make(-1, 3, ())
        third, _ = heap.make(-1, 1, ())
        self.assertEqual(heap.minor((first, second, third)), (38, 45, 42))
        self.assertEqual(heap.picture(), (
            (), 1, (head(-1, 1), 2, 0, 0, head(-1, 1), 1, 0), (head(-1), 3, 0, 0, 0), (), (), False))

    def test_the_sequence_of_moves(self):
        """Roots, then remembered slots, then slots of what was moved: those in the half first."""
        heap = Heap(SHAPES, (60, 8, 8, 3))
        old, _ = heap.make(-2, 7, ())
        made = [heap.make(-2, 2, ())[0] for _ in range(6)]
        heap.put(old, 6, made[1])
        heap.put(made[0], 1, made[3])
        heap.put(made[1], 0, made[4])
        heap.put(made[2], 0, made[5])
        # The roots 0 and 2 fill the half; all else goes to the old room.
        roots = heap.minor((made[0], made[2]))
        self.assertEqual(roots, (69, 73))
        base = old + 9
        self.assertEqual(heap.get(old, 6), base)
        self.assertEqual(heap.get(69, 1), base + 4)
        self.assertEqual(heap.get(73, 0), base + 8)
        self.assertEqual(heap.get(base, 0), base + 12)
        self.assertEqual(heap.remembered(), ())

    def test_what_gets_old_may_hold_what_stays_young(self):
        heap = Heap(SHAPES, (30, 4, 8, 3))
        young, _ = heap.make(-2, 2, ())
        other, _ = heap.make(-2, 4, ())
        heap.put(other, 3, young)
        roots = heap.minor((young, other))
        self.assertEqual(roots, (35, 39))
        self.assertEqual(heap.remembered(), (39 + 5,))

    def test_settle(self):
        heap = Heap(SHAPES, SIZES)
        old, _ = heap.make(-2, 7, ())
        young, _ = heap.make(0, 0, ())
        heap.put(old, 0, young)
        young, = heap.minor((young,))
        other, _ = heap.make(1, 2, (young,))
        self.assertEqual(heap.settle((other, 0, other)), (50, 0, 50))
        self.assertEqual(heap.picture(), (
            (), 0, (), (head(-2), 7, 54, 0, 0, 0, 0, 0, 0, head(1), 2, 0, 0, head(0), 0), (), (), False))

    def test_what_gets_old_while_marking_is_grey(self):
        heap = Heap(SHAPES, SIZES)
        heap.begin(())
        one, _ = heap.make(0, 0, ())
        two, _ = heap.make(0, 0, ())
        roots = heap.settle((two, one))
        self.assertEqual(roots, (41, 43))
        self.assertEqual(heap.picture(), (
            (), 0, (), (head(0, 0, 1), 0, head(0, 0, 1), 0), (), (41, 43), True))


class Wholes(Heaping):
    def chain(self):
        """Four old objects, the first one leading to the third one, and that to the fourth."""
        heap = Heap(SHAPES, (16, 0, 4, 1))
        made = [heap.make(1, 2, ())[0]]
        for number in range(3):
            address, made[:] = heap.make(1, 2, tuple(made))
            made.append(address)
        made = heap.settle(tuple(made))
        heap.put(made[0], 0, made[2])
        heap.put(made[2], 0, made[3])
        for number, address in enumerate(made):
            heap.put(address, 1, number)
        return heap, made

    def test_begin_shades_the_roots_and_refuses_to_begin_twice(self):
        heap, made = self.chain()
        self.assertFalse(heap.is_marking())
        self.assertEqual(heap.begin((made[0], 0, made[0])), (made[0], 0, made[0]))
        self.assertTrue(heap.is_marking())
        self.assertEqual(heap.picture()[5:], ((made[0],), True))
        self.refused(BadRoots, heap.begin, (3,))
        self.refused(Marking, heap.begin, ())
        self.assertEqual(heap.picture()[5:], ((made[0],), True))

    def test_what_begin_settles_is_white(self):
        heap = Heap(SHAPES, SIZES)
        one, _ = heap.make(1, 2, ())
        two, _ = heap.make(0, 0, ())
        heap.put(one, 0, two)
        self.assertEqual(heap.begin((one,)), (41,))
        self.assertEqual(heap.picture(), (
            (), 1, (), (head(1, 0, 1), 2, 45, 0, head(0), 0), (), (41,), True))

    def test_slices(self):
        heap, made = self.chain()
        colours = []
        for count in (0, 1, 1):
            heap.slice(count, (made[0],))
            colours.append([heap.picture()[3][at] - head(1) for at in (0, 4, 8, 12)])
        self.assertEqual(colours, [[1, 0, 0, 0], [2, 0, 1, 0], [2, 0, 2, 1]])
        self.assertEqual(heap.picture()[5], (made[3],))
        self.assertEqual(heap.slice(1, (made[3], made[0])), (made[0] + 8, made[0]))
        self.assertEqual(heap.picture(), (
            (), 1, (), (head(1), 2, made[1], 0, head(1), 2, made[2], 2, head(1), 2, 0, 3), (), (), False))

    def test_slice_of_nothing_begins_and_ends(self):
        heap = Heap(SHAPES, SIZES)
        heap.make(-1, 9, ())
        self.assertEqual(heap.slice(0, ()), ())
        self.assertFalse(heap.is_marking())
        self.assertEqual(heap.counts(), (0,) * 6)

    def test_counts_of_slices(self):
        heap, made = self.chain()
        for count in NO_INTEGERS + (-1, 10 ** 6 + 1):
            self.refused(BadCount, heap.slice, count, None)
        self.assertFalse(heap.is_marking())
        self.assertEqual(heap.slice(count=10 ** 6, roots=(made[0],)), (made[0],))
        self.assertEqual(heap.counts(), (0, 0, 12, 0, 0, 3))

    def test_put_shades_while_marking(self):
        heap, made = self.chain()
        heap.begin((made[0],))
        heap.put(made[0], 0, made[1])
        self.assertEqual(heap.picture()[5], (made[0], made[1]))
        heap.put(made[0], 0, made[1])
        self.assertEqual(heap.picture()[5], (made[0], made[1]))
        # Into a young object nothing is shaded.
        young, _ = heap.make(1, 2, (made[0],))
        heap.put(young, 0, made[3])
        self.assertEqual(heap.picture()[5], (made[0], made[1]))
        roots = heap.whole((made[0],))
        self.assertEqual(heap.counts(), (0, 0, 8, 0, 0, 2))
        self.assertEqual(heap.graph(roots), ((1,), ((1, (2, 0)), (1, (0, 1)))))

    def test_whole_ends_the_one_under_way(self):
        heap, made = self.chain()
        heap.begin(made)
        self.assertEqual(heap.whole(()), ())
        # All were shaded at the beginning.
        self.assertEqual(heap.counts(), (0, 0, 16, 0, 0, 4))
        self.assertEqual(heap.whole(()), ())
        self.assertEqual(heap.counts(), (0,) * 6)

    def test_roots_of_the_end_are_shaded(self):
        heap, made = self.chain()
        heap.begin((made[0],))
        self.assertEqual(heap.slice(10, (made[1],)), (made[1],))
        self.assertEqual(heap.counts(), (0, 0, 16, 0, 0, 4))

    def test_packed_in_sequence(self):
        heap, made = self.chain()
        roots = heap.whole((made[3], made[1]))
        self.assertEqual(roots, (made[1], made[0]))
        self.assertEqual(heap.picture()[3], (head(1), 2, 0, 1, head(1), 2, 0, 3))


class Graphs(Heaping):
    def test_numbers_and_things(self):
        heap = Heap(SHAPES, SIZES)
        one, _ = heap.make(2, 2, ())
        row, _ = heap.make(-2, 3, ())
        text, _ = heap.make(-3, 1, ())
        lost, _ = heap.make(0, 0, ())
        heap.put(one, 0, row)
        heap.put(one, 1, text)
        heap.put(text, 0, 65)
        heap.put(row, 0, one)
        heap.put(row, 2, row)
        self.assertEqual(heap.graph((0, row, 0, row, one)), (
            (0, 1, 0, 1, 2), ((-2, (2, 0, 1)), (2, (row, 3)), (-3, (65,)))))
        self.assertEqual(heap.graph(()), ((), ()))
        self.assertEqual([heap.unreached(roots) for roots in ((row,), (text, 0), (lost, row), ())], [1, 3, 0, 4])

    def test_a_plain_slot_is_no_reference(self):
        heap = Heap(SHAPES, SIZES)
        one, _ = heap.make(2, 2, ())
        other, _ = heap.make(0, 0, ())
        heap.put(one, 0, other)
        self.assertEqual(heap.graph((one,)), ((1,), ((2, (other, 0)),)))
        self.assertEqual(heap.unreached((one,)), 1)

    def test_whole_keeps_the_graph(self):
        heap = Heap(SHAPES, SIZES)
        row, _ = heap.make(-2, 3, ())
        one, _ = heap.make(2, 2, ())
        heap.put(row, 2, row)
        heap.put(row, 0, one)
        heap.put(one, 1, row)
        heap.put(one, 0, 77)
        graph = heap.graph((row, 0))
        roots = heap.whole((row, 0))
        self.assertEqual(heap.graph(roots=roots), graph)
        self.assertEqual(graph, ((1, 0), ((-2, (2, 0, 1)), (2, (77, 1)))))


class Pictures(Heaping):
    def test_a_heap_of_a_picture_goes_on(self):
        heap = Heap(SHAPES, SIZES)
        old, _ = heap.make(-2, 7, ())
        young, _ = heap.make(1, 2, ())
        young, = heap.minor((young,))
        heap.put(old, 1, young)
        heap.slice(0, (old,))
        other, roots = heap.make(0, 0, (old,))
        heap.put(old, 2, other)
        for picture in (heap.picture(), Heap(SHAPES, SIZES).picture()):
            same = heap_of(shapes=SHAPES, sizes=SIZES, picture=picture)
            self.assertIsInstance(same, Heap)
            self.assertEqual(same.picture(), picture)
        same = heap_of(SHAPES, SIZES, heap.picture())
        self.assertEqual(same.whole(roots), heap.whole(roots))
        self.assertEqual(same.picture(), heap.picture())
        same.make(0, 0, ())
        self.assertEqual(heap.counts()[0], 0)

    def test_what_is_no_picture(self):
        good = Heap(SHAPES, SIZES).picture()
        for thing in NO_TUPLES + (good[:6], good + (0,), list(good), ((1,),) + good[1:], good[:6] + (0,)):
            self.refused(BadPicture, heap_of, SHAPES, SIZES, thing)


if __name__ == "__main__":
    unittest.main()
