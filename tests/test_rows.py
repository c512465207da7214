"""write_module and read_module: a module's text there and back, and what is no text of one (point 14)."""

import unittest

from movedrun.compiler import compiled
from movedrun.errors import BadModule, BadRows
from movedrun.modules import is_module, read_module, write_module
from tests.building import EXAMPLE, WORDS
from tests.modulebuilding import INSTRUCTIONS, KINDS, WHOLE, WHOLE_TEXT, function_of, module_of, with_code

HEAD = "main 0\nfunction f -\n"


def refused(text):
    """The row and word of what is refused, None for a text that is read."""
    try:
        read_module(text)
    except BadRows as wrong:
        return (wrong.row, wrong.word)
    return None


class Rows(unittest.TestCase):
    def there_and_back(self, module, text):
        with self.subTest(text=text[:300]):
            self.assertEqual(write_module(module), text)
            found = read_module(text)
            self.assertEqual(found, module)
            self.assertEqual(repr(found), repr(module))

    def at(self, text, row, word):
        with self.subTest(text=repr(text)[:300]):
            self.assertEqual(refused(text), (row, word))

    def in_code(self, row, word):
        """A row of code is refused at this word, as the first one, as one between and as the last one."""
        self.at(HEAD + row, 2, word)
        self.at(HEAD + "nil\n" + row + "\ndone", 3, word)
        self.at(HEAD + "done\n" + row, 3, word)


class ThereAndBack(Rows):
    def test_all_sorts_of_rows(self):
        self.there_and_back(WHOLE, WHOLE_TEXT)

    def test_small_ones(self):
        self.there_and_back(((), (), 0), "main 0")
        self.there_and_back(((), (), 9999), "main 9999")
        self.there_and_back(module_of(function_of()), HEAD + "done")
        self.there_and_back(((("A", None, (), ()),), (), 3), "main 3\nclass A -")
        self.there_and_back(((("A", "A", (), ()),), (), 3), "main 3\nclass A A")

    def test_each_instruction(self):
        for instruction, row in INSTRUCTIONS:
            self.there_and_back(with_code(instruction), HEAD + row)

    def test_each_kind(self):
        for kind, words in KINDS:
            self.there_and_back(module_of(function_of(result=kind)), "main 0\nfunction f " + words + "\ndone")
            self.there_and_back(module_of(function_of(params=(kind,))), HEAD + "param " + words + "\ndone")
            self.there_and_back(module_of(function_of(own=(kind,))), HEAD + "local " + words + "\ndone")
            self.there_and_back(((("A", None, (("f", kind),), ()),), (), 0), "main 0\nclass A -\nfield f " + words)

    def test_each_sign_of_a_text(self):
        for code in range(32, 127):
            if code not in (34, 37):
                self.there_and_back(with_code(("text", chr(code))), HEAD + f"text {code}")

    def test_ints(self):
        for number in (0, 1, 9, 10, -1, -10, 2 ** 31 - 1, -2 ** 31):
            self.there_and_back(with_code(("int", number)), HEAD + f"int {number}")

    def test_at_the_bounds(self):
        named = tuple((f"n{at}", "int") for at in range(8))
        methods = tuple((f"n{at}", at) for at in range(8))
        classes = (("Abcdefg8", "Hijklmn8", named, methods),) * 12
        functions = (function_of("Abcdefg8.hijklmn8", ("int",) * 12, None, ("text",) * 8, catches=((0, 1, 1, "A"),) * 10),) * 60
        text = write_module((classes, functions, 9999))
        self.assertEqual(read_module(text), (classes, functions, 9999))
        code = tuple(("int", at) for at in range(4000))
        self.assertEqual(read_module(write_module(with_code(*code))), with_code(*code))

    def test_compiled(self):
        module = compiled(EXAMPLE)
        self.assertEqual(read_module(write_module(module)), module)

    def test_arguments_by_name(self):
        self.assertEqual(write_module(module=WHOLE), WHOLE_TEXT)
        self.assertEqual(read_module(text=WHOLE_TEXT), WHOLE)

    def test_what_is_no_module(self):
        for thing in (None, WHOLE_TEXT, list(WHOLE), with_code(("int", True)), ((), ())):
            with self.assertRaises(BadModule):
                write_module(thing)


class Refused(Rows):
    def test_what_is_no_str(self):
        for thing in (None, True, 0, b"main 0", [], ["main 0"], (), ("main 0",), WHOLE, {}, object()):
            self.at(thing, 0, 0)

    def test_main(self):
        for text, word in (("", 0), (" ", 0), ("\n", 0), (" main 0", 0), ("main", 1), ("main ", 1), ("main  0", 1),
                           ("main 0 ", 2), ("main 0 0", 2), ("Main 0", 0), ("class A -", 0), ("main x", 1), ("main -1", 1),
                           ("main -0", 1), ("main 00", 1), ("main 01", 1), ("main 10000", 1), ("main +1", 1),
                           ("main 99999999999999", 1), ("main 1_0", 1), ("main -", 1)):
            self.at(text, 0, word)
        self.at("\nmain 0", 0, 0)
        self.at("main 0\n", 1, 0)
        self.at("main 0\nmain 0", 1, 0)
        self.at("main 0\n\nclass A -", 1, 0)

    def test_each_word_of_all_rows_exchanged(self):
        rows = WHOLE_TEXT.split("\n")
        for at, row in enumerate(rows):
            words = row.split(" ")
            for place in range(len(words)):
                for other in ("?", "", "a_", "-0", "abcdefghi", "0x"):
                    text = "\n".join(rows[:at] + [" ".join(words[:place] + [other] + words[place + 1:])] + rows[at + 1:])
                    self.at(text, at, place)

    def test_each_row_with_one_word_too_many(self):
        rows = WHOLE_TEXT.split("\n")
        for at, row in enumerate(rows):
            for more in (" x", " ", " 0", " -"):
                self.at("\n".join(rows[:at] + [row + more] + rows[at + 1:]), at, len(row.split(" ")))

    def test_each_row_that_ends_too_early(self):
        rows = WHOLE_TEXT.split("\n")
        for at, row in enumerate(rows):
            words = row.split(" ")
            for many in range(1, len(words)):
                self.at("\n".join(rows[:at] + [" ".join(words[:many])] + rows[at + 1:]), at, many)
                self.at("\n".join(rows[:at] + [" ".join(words[:many])]), at, many)

    def test_a_blank_or_a_line_feed_too_many(self):
        rows = WHOLE_TEXT.split("\n")
        for at, row in enumerate(rows):
            words = row.split(" ")
            for place in range(len(words)):
                self.at("\n".join(rows[:at] + [" ".join(words[:place] + [""] + words[place:])] + rows[at + 1:]), at, place)
            self.at("\n".join(rows[:at] + [""] + rows[at:]), at, 0)
        self.at(WHOLE_TEXT + "\n", len(rows), 0)

    def test_a_further_row_must_come(self):
        self.at("main 0\nfunction f -", 2, 0)
        self.at("main 0\nfunction f int\nparam int", 3, 0)
        self.at("main 0\nfunction f int\nparam int\nlocal int", 4, 0)
        self.at("main 0\nclass A -\nfunction f -\ndone\nfunction g -", 5, 0)

    def test_a_row_that_must_not_stand_there(self):
        for row in ("main 0", "field f int", "method m 0", "param int", "local int", "catch 0 0 0 A", "done", "nil", "x"):
            self.at("main 0\n" + row, 1, 0)
        for row in ("main 0", "class A -", "field f int", "method m 0", "function f -", "catch 0 0 0 A", "x", "-"):
            self.at(HEAD + row + "\ndone", 2, 0)
        for row in ("main 0", "class A -", "field f int", "method m 0", "param int", "local int", "x", ""):
            self.at(HEAD + "done\n" + row, 3, 0)
            self.at(HEAD + "done\n" + row + "\ndone", 3, 0)
        for row in ("main 0", "class A -", "field f int", "method m 0", "param int", "local int", "done", "nil"):
            self.at(HEAD + "done\ncatch 0 1 1 A\n" + row, 4, 0)
        self.at("main 0\nclass A -\nmethod m 0\nfield f int", 3, 0)
        self.at(HEAD + "local int\nparam int\ndone", 3, 0)
        self.at("main 0\nclass A -\nparam int", 2, 0)

    def test_rows_beyond_the_bounds(self):
        self.at("main 0" + "\nclass A -" * 13, 13, 0)
        self.at("main 0" + "\nclass A -" * 13 + " wrong", 13, 0)
        self.at("main 0\nclass A -" + "\nfield f int" * 9, 10, 0)
        self.at("main 0\nclass A -" + "\nmethod m 0" * 9, 10, 0)
        self.at("main 0" + "\nfunction f -\ndone" * 61, 121, 0)
        for params in (0, 5, 20):
            rows = ["param int"] * params + ["local int"] * (21 - params)
            self.at(HEAD + "\n".join(rows) + "\ndone", 22, 0)
        self.at(HEAD + "\n".join(["param int"] * 21) + "\ndone", 22, 0)
        self.at(HEAD + "\n".join(["done"] * 4001), 4002, 0)
        self.at(HEAD + "done" + "\ncatch 0 1 1 A" * 11, 13, 0)
        # What is wrong ahead of the row beyond is told first.
        self.at("main 0\nclass A ?" + "\nclass A -" * 12, 1, 2)

    def test_names(self):
        for name in [word for word in WORDS] + ["", "1a", "abcdefghi", "a_", "a.b"]:
            self.at("main 0\nclass " + name + " -", 1, 1)
            self.at("main 0\nclass A " + name, 1, 2)
            self.at("main 0\nclass A -\nfield " + name + " int", 2, 1)
            self.at("main 0\nclass A -\nmethod " + name + " 0", 2, 1)
            self.in_code("new " + name, 1)
            self.in_code("ask A " + name, 2)
            self.at(HEAD + "done\ncatch 0 1 1 " + name, 3, 4)
        for name in ("", "1a", "abcdefghi", "a.", ".a", "a.b.c", "a.if", "if", "-", "a..b"):
            self.at("main 0\nfunction " + name + " -\ndone", 1, 1)
        self.at("main 0\nclass - -", 1, 1)

    def test_kinds(self):
        for words, at in (("nil", 0), ("A", 0), ("", 0), ("of", 1), ("of if", 1), ("of -", 1), ("row", 1), ("row A", 1),
                          ("row row", 2), ("row row row", 3), ("row row row row int", 3), ("row row row row", 3),
                          ("int int", 1), ("row int int", 2), ("of A A", 2), ("row of", 2), ("row  int", 1)):
            self.at("main 0\nfunction f " + words + "\ndone", 1, 2 + at)
            self.at(HEAD + "param " + words + "\ndone", 2, 1 + at)
            self.at(HEAD + "local " + words + "\ndone", 2, 1 + at)
            self.at("main 0\nclass A -\nfield f " + words, 2, 2 + at)
        self.at(HEAD + "param -\ndone", 2, 1)
        self.at("main 0\nfunction f - -\ndone", 1, 3)
        for words, at in (("row", 1), ("row row row row int", 3), ("row nil", 1), ("row of", 2), ("row int int", 2)):
            self.in_code(words, at)
        self.assertEqual(refused(HEAD + "row row row int"), None)

    def test_numbers(self):
        for word in ("load", "store", "jump", "if", "call"):
            for number in ("-1", "10000", "00", "01", "-0", "x", "", "+1", "1,2", "2147483648", "99999999999999999999"):
                self.in_code(word + " " + number, 1)
        for number in ("2147483648", "-2147483649", "00", "01", "-0", "-01", "-", "--1", "+1", "x", "", "1.5", "1_0"):
            self.in_code("int " + number, 1)
        for at in range(3):
            words = ["catch", "0", "1", "1", "A"]
            for number in ("-1", "10000", "01", "A"):
                words[at + 1] = number
                self.at(HEAD + "done\n" + " ".join(words), 3, at + 1)
        self.at("main 0\nclass A -\nmethod m 10000", 2, 2)

    def test_truths(self):
        for word in ("", "True", "1", "0", "tru", "truee", "-"):
            self.in_code("truth " + word, 1)

    def test_texts(self):
        for word in ("", "31", "127", "34", "37", "a", "097", "97,", ",97", "97,,98", "97,34", "--", "-,97", "97,-", "-97",
                     ",".join(["97"] * 41), "97.98", "1000"):
            self.in_code("text " + word, 1)
        self.in_code("text 97, 98", 1)
        self.in_code("text 97 98", 2)

    def test_instructions(self):
        for row in ("", "Done", "don", "donee", "-", "1", "class A -", "and", "var 0"):
            self.at(HEAD + row, 2, 0)
        self.in_code("done 1", 1)
        self.in_code("done ", 1)
        self.in_code("load 0 1", 2)
        self.in_code("load", 1)
        self.in_code("ask A", 2)

    def test_the_first_that_does_not_fit(self):
        self.at("main 0 ?\nclass ?", 0, 2)
        self.at("main 0\nclass ? ?", 1, 1)
        self.at("main 0\nclass A -\nfield f ?\nfield ?", 2, 2)

    def test_what_is_read_is_a_module(self):
        rows = WHOLE_TEXT.split("\n")
        # Whatever row is left out, the rest is read or refused, and what is read is a module.
        for at in range(len(rows)):
            text = "\n".join(rows[:at] + rows[at + 1:])
            if refused(text) is None:
                self.assertTrue(is_module(read_module(text)))
                self.assertEqual(write_module(read_module(text)), text)


if __name__ == "__main__":
    unittest.main()
