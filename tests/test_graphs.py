"""same_graph and graph_size: the form of graphs, and when two are equal (point 22)."""

import unittest

from movedrun.errors import BadGraph
from movedrun.plain import graph_size, same_graph

THINGS = (
    ("of", "A", (1, True, None, ("thing", 1))), ("row", "int", (0, 5)), ("text", "a b~"), ("row", ("row", ("of", "B")), (None,)),
)
FRAMES = ((0, 3, ("unset", 1, ("thing", 0)), ("mixed", False, None)), (10 ** 9, 10 ** 9, (), (("thing", 3),)))
GRAPH = (FRAMES, THINGS)


def with_value(value):
    return (((0, 0, (value,), ()),), THINGS)


def with_thing(thing):
    return ((), (thing,))


class Graphs(unittest.TestCase):
    def is_graph(self, thing):
        """Both sides of same_graph and graph_size agree on what is one."""
        try:
            size = graph_size(graph=thing)
        except BadGraph:
            for one, other in ((thing, GRAPH), (GRAPH, thing), (thing, None)):
                with self.assertRaises(BadGraph):
                    same_graph(one, other)
            return False
        self.assertIsInstance(size, int)
        self.assertIs(same_graph(graph=thing, other=thing), True)
        return True

    def test_graphs(self):
        for thing in (GRAPH, ((), ()), ((), THINGS), (FRAMES[:0], ()), (((0, 0, (), ()),), ())):
            self.assertTrue(self.is_graph(thing))

    def test_what_is_none(self):
        for thing in (None, True, 0, "", (), [], (FRAMES,), (FRAMES, THINGS, ()), [FRAMES, THINGS], (list(FRAMES), THINGS),
                      (FRAMES, list(THINGS)), (None, ()), ((), None), (FRAMES, ()), (FRAMES, THINGS[:3])):
            self.assertFalse(self.is_graph(thing), thing)

    def test_frames(self):
        good = FRAMES[0]
        self.assertTrue(self.is_graph(((good,), THINGS)))
        for at, wrong in ((0, (-1, True, None, "0")), (1, (-1, False, None)), (2, (None, [], 0, (5, "mixed"), ("",), ((),))),
                          (3, (None, [], ("unset",), ("x",), ([],)))):
            for part in wrong:
                frame = good[:at] + (part,) + good[at + 1:]
                self.assertFalse(self.is_graph(((frame,), THINGS)), frame)
        for frame in (None, list(good), good[:3], good + ((),), ()):
            self.assertFalse(self.is_graph(((frame,), THINGS)))

    def test_values(self):
        for value in (0, -2 ** 31, 2 ** 31 - 1, True, None, ("thing", 0), ("thing", 3), "unset"):
            self.assertTrue(self.is_graph(with_value(value)), value)
        for value in (2 ** 31, -2 ** 31 - 1, ("thing", 4), ("thing", -1), ("thing", True), ("thing",), ("thing", 0, 0),
                      ["thing", 0], ("Thing", 0), (0, "thing"), "", "text", (), {}, "mixed", (None, 0), ("thing", None)):
            self.assertFalse(self.is_graph(with_value(value)), value)

    def test_things(self):
        for thing in (("of", "zZ9", ()), ("of", "A", (("thing", 0),)), ("row", "truth", (True,)), ("row", "text", (1, False)),
                      ("row", ("row", ("row", ("row", "int")))[1], ()), ("text", ""), ("text", " ~" * 500), ("of", "A", (0,) * 500)):
            self.assertTrue(self.is_graph(with_thing(thing)), thing)
        for thing in (None, (), [], "text", ("of",), ("of", "A"), ("of", "class", ()), ("of", "9", ()), ("of", "A", []), ("of", None, ()),
                      ("of", "A", ("unset",)), ("of", "A", ("mixed",)), ("of", "A", (("thing", 1),)), ("of", "A", (), ()),
                      ("row", "nil", ()), ("row", "mixed", ()), ("row", "A", ()), ("row", ("of", "self"), ()), ("row", "int", [0]),
                      ("row", "int", ("unset",)), ("row", ("row", ("row", ("row", ("row", "int")))), ()), ("row", "int"),
                      ("text", None), ("text", "\""), ("text", "a" + chr(37)), ("text", "\n"), ("text", "x", ()), ("text",),
                      ("text", ()), ("row", "int", (2 ** 31,)), ("Text", ""), (1, ""), ("row", "int", ""), ("Row", "int", ()), ("", "int", ()), (None, "int", ()), (0, "A", ())):
            self.assertFalse(self.is_graph(with_thing(thing)), thing)

    def test_sizes(self):
        self.assertEqual(graph_size(((), ())), 0)
        self.assertEqual(graph_size(GRAPH), 6 + 4 + 6 + 3)
        self.assertEqual(graph_size(with_thing(("text", ""))), 2)

    def test_equal_ones(self):
        again = (tuple(list(FRAMES)), tuple(list(THINGS)))
        self.assertIs(same_graph(GRAPH, again), True)

    def test_unequal_ones(self):
        for one, other in (
            (with_value(1), with_value(True)), (with_value(0), with_value(False)), (with_value(None), with_value(0)),
            (with_value("unset"), with_value(None)), (with_value(("thing", 0)), with_value(None)), (with_value(("thing", 0)), with_value(0)),
            (with_value(("thing", 0)), with_value("unset")), (with_value(("thing", 0)), with_value(("thing", 1))),
            (with_thing(("row", "int", (1,))), with_thing(("row", "int", (True,)))),
            (with_thing(("of", "A", (0,))), with_thing(("of", "B", (0,)))),
            (with_thing(("of", "A", (0,))), with_thing(("of", "A", (0, 0)))),
            (with_thing(("row", "int", ())), with_thing(("row", "truth", ()))),
            (with_thing(("row", "text", ())), with_thing(("text", ""))),
            (with_thing(("text", "a")), with_thing(("text", "A"))),
            ((FRAMES, THINGS), (FRAMES[:1], THINGS)), (((), ()), with_thing(("text", ""))),
            ((((0, 0, (), ()),), ()), (((0, 1, (), ()),), ())), ((((0, 0, (), ()),), ()), (((1, 0, (), ()),), ())),
            ((((0, 0, (1,), ()),), ()), (((0, 0, (), (1,)),), ())),
        ):
            self.assertIs(same_graph(one, other), False)
            self.assertIs(same_graph(other, one), False)


if __name__ == "__main__":
    unittest.main()
