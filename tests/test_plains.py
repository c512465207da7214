"""The plain heap, and when two heaps are alike (point 33)."""

import unittest

from movedrun.errors import (
    BadAddress, BadCount, BadKind, BadRoots, BadShapes, BadSize, BadSlot, BadValue
)
from movedrun.heaps import Heap
from movedrun.plains import PlainHeap, alike
from tests.test_heaps import NO_INTEGERS, NO_TUPLES, SHAPES, SIZES


class Plain(unittest.TestCase):
    def refused(self, error, deed, *told):
        with self.assertRaises(error) as caught:
            deed(*told)
        self.assertIs(type(caught.exception), error)

    def test_objects_are_numbered_as_they_are_made(self):
        heap = PlainHeap(shapes=SHAPES)
        self.assertEqual(heap.make(kind=1, slots=2, roots=()), (1, ()))
        self.assertEqual(heap.make(-3, 1000, (1, 0, 1)), (2, (1, 0, 1)))
        self.assertEqual(heap.make(-2, 0, ()), (3, ()))
        self.assertEqual([(heap.kind(at), heap.slots(at)) for at in (1, 2, 3)], [(1, 2), (-3, 1000), (-2, 0)])
        self.assertIsNone(heap.put(1, 0, 3))
        heap.put(address=1, slot=1, value=-5)
        self.assertEqual((heap.get(1, 0), heap.get(address=1, slot=1)), (3, -5))
        heap.put(1, 0, 0)
        self.assertEqual(heap.get(1, 0), 0)

    def test_collections_do_nothing(self):
        heap = PlainHeap(SHAPES)
        heap.make(0, 0, ())
        heap.make(0, 0, ())
        for deed in (heap.minor, heap.settle, heap.begin, heap.begin, heap.whole, heap.begin):
            self.assertEqual(deed((2, 0)), (2, 0))
        for _ in range(2):
            self.assertEqual(heap.slice(count=0, roots=(2,)), (2,))
            self.assertEqual(heap.slice(10 ** 6, ()), ())
        self.assertEqual(heap.kind(1), 0)
        self.assertEqual(heap.unreached((2,)), 1)

    def test_what_is_refused(self):
        for shapes in NO_TUPLES + (([],), (True,), ((1,),), ((),) * 61, ((True,) * 101,)):
            self.refused(BadShapes, PlainHeap, shapes)
        heap = PlainHeap(SHAPES)
        for kind in NO_INTEGERS + (-4, 3):
            self.refused(BadKind, heap.make, kind, None, None)
        for kind, slots in ((0, 1), (1, 1), (-1, 1001), (-3, -1), (-1, True), (-2, None), (0, False)):
            self.refused(BadSize, heap.make, kind, slots, None)
        heap.make(1, 2, ())
        heap.make(-1, 1, ())
        for roots in NO_TUPLES + ([1], (3,), (-1,), (True,), (None,), (0,) * 40001):
            for deed in (lambda r: heap.make(0, 0, r), heap.graph, heap.unreached, heap.minor, heap.settle, heap.begin,
                         lambda r: heap.slice(0, r), heap.whole):
                self.refused(BadRoots, deed, roots)
        for count in NO_INTEGERS + (-1, 10 ** 6 + 1):
            self.refused(BadCount, heap.slice, count, None)
        for address in NO_INTEGERS + (0, 3, -1):
            for deed in (heap.kind, heap.slots, lambda a: heap.get(a, None), lambda a: heap.put(a, None, None)):
                self.refused(BadAddress, deed, address)
        for slot in NO_INTEGERS + (-1, 2):
            self.refused(BadSlot, heap.get, 1, slot)
            self.refused(BadSlot, heap.put, 1, slot, None)
        for value in NO_INTEGERS + (3, -1):
            self.refused(BadValue, heap.put, 1, 0, value)
        for value in NO_INTEGERS + (2 ** 31, -2 ** 31 - 1):
            self.refused(BadValue, heap.put, 1, 1, value)
        self.assertEqual(heap.unreached(()), 2)

    def test_graph(self):
        heap = PlainHeap(SHAPES)
        row, _ = heap.make(-2, 3, ())
        one, _ = heap.make(2, 2, ())
        heap.make(0, 0, ())
        heap.put(row, 2, row)
        heap.put(row, 0, one)
        heap.put(one, 1, row)
        heap.put(one, 0, 77)
        self.assertEqual(heap.graph((one, 0, row)), ((1, 0, 2), ((2, (77, 2)), (-2, (1, 0, 2)))))
        self.assertEqual(heap.unreached(roots=(one,)), 1)
        self.assertEqual(heap.graph(roots=()), ((), ()))


class Alike(unittest.TestCase):
    def heaps(self):
        """Two of each sort with a row that holds an object, which holds a word."""
        found = []
        for heap in (PlainHeap(SHAPES), PlainHeap(SHAPES), Heap(SHAPES, SIZES), Heap(SHAPES, (16, 0, 4, 1))):
            row, roots = heap.make(-2, 2, ())
            one, roots = heap.make(1, 2, (row,))
            row, = roots
            heap.put(row, 1, one)
            heap.put(one, 1, 6)
            found.append((heap, row))
        return found

    def test_alike(self):
        for heap, root in self.heaps():
            for other, base in self.heaps():
                self.assertIs(alike(heap=heap, roots=(root, 0), other=other, others=(base, 0)), True)
                self.assertIs(alike(heap, (root, 0), other, (base,)), False)
                self.assertIs(alike(heap, (root,), other, (0,)), False)
                self.assertIs(alike(heap, (root,), other, (base, base)), False)
                self.assertIs(alike(heap, (root,), other, (other.get(base, 1),)), False)
                other.put(other.get(base, 1), 1, 7)
                self.assertIs(alike(heap, (root,), other, (base,)), False)
                other.put(other.get(base, 1), 1, 6)
                base, = other.whole((base,))
                self.assertIs(alike(heap, (root,), other, (base,)), True)
                other.put(base, 0, base)
                self.assertIs(alike(heap, (root,), other, (base,)), False)

    def test_roots(self):
        for heap, root in self.heaps():
            for other, base in self.heaps():
                for wrong in (None, [root], (True,), (99,)):
                    for others in (None, (base,)):
                        with self.assertRaises(BadRoots):
                            alike(heap, wrong, other, others)
                    with self.assertRaises(BadRoots):
                        alike(heap, (root,), other, wrong)


if __name__ == "__main__":
    unittest.main()
