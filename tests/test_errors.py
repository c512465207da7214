"""The errors: their classes and their fields."""

import unittest

from movedrun import errors

PLAIN = (
    "BadForm BadGiven BadCount BadModule BadIndex BadPlace BadGraph BadShapes BadKind BadSize BadValue BadSizes "
    "BadRoots BadAddress BadSlot Marking BadPicture BadSchedule BadView BadStrip BadGuesses BadOpened"
).split()
FIELDS = {"BadText": ("place",), "NotLetBy": ("what",), "BadRows": ("row", "word"), "NotVerified": ("what",)}


class Classes(unittest.TestCase):
    def test_there_are_just_these(self):
        found = [name for name, value in vars(errors).items() if isinstance(value, type)]
        self.assertEqual(sorted(found), sorted(PLAIN + list(FIELDS) + ["MachineError"]))
        self.assertEqual(len(found), 27)

    def test_each_is_directly_under_machine_error(self):
        for name in PLAIN + list(FIELDS):
            with self.subTest(name=name):
                self.assertEqual(getattr(errors, name).__bases__, (errors.MachineError,))

    def test_machine_error_is_a_value_error(self):
        self.assertEqual(errors.MachineError.__bases__, (ValueError,))
        self.assertIsInstance(errors.MachineError("why"), ValueError)

    def test_each_is_defined_in_its_file(self):
        for name in PLAIN + list(FIELDS) + ["MachineError"]:
            self.assertEqual(getattr(errors, name).__module__, "movedrun.errors")
            self.assertEqual(getattr(errors, name).__name__, name)


class Fields(unittest.TestCase):
    def test_those_without_fields_are_made_with_one_text(self):
        for name in PLAIN:
            with self.subTest(name=name):
                self.assertEqual(str(getattr(errors, name)("the why")), "the why")

    def test_fields_by_position(self):
        place = object()
        self.assertIs(errors.BadText(place).place, place)
        what = ("kind", (None, "main", 3))
        self.assertIs(errors.NotLetBy(what).what, what)
        self.assertIs(errors.NotVerified(what).what, what)
        rows = errors.BadRows(4, 9)
        self.assertEqual((rows.row, rows.word), (4, 9))

    def test_fields_by_name(self):
        self.assertEqual(errors.BadText(place=5).place, 5)
        self.assertEqual(errors.NotLetBy(what=None).what, None)
        self.assertEqual(errors.NotVerified(what="x").what, "x")
        rows = errors.BadRows(word=1, row=2)
        self.assertEqual((rows.row, rows.word), (2, 1))

    def test_those_with_fields_tell_them_in_words_too(self):
        self.assertIn("17", str(errors.BadText(17)))
        self.assertIn("double", str(errors.NotLetBy(("double", (None, "main", 3)))))
        self.assertIn("short", str(errors.NotVerified(("short", 2, 31))))
        self.assertIn("23", str(errors.BadRows(4, 23)))

    def test_they_can_be_raised_and_caught(self):
        for name in PLAIN:
            with self.assertRaises(errors.MachineError):
                raise getattr(errors, name)("x")


if __name__ == "__main__":
    unittest.main()
