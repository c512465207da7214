"""The words of a program's text, cut off one by one."""

from movedrun.errors import BadText
from movedrun.forms import DIGITS, GREATEST_INT, LEAST_INT, LETTERS, is_name, is_short_text

MOST_BRACKETS = 60
MOST_DIGITS = 10

OPENING = ("(", "[", "{")
CLOSING = (")", "]", "}")


def is_number(word):
    """Whether a word is digits, perhaps with a - ahead, that tell an int."""
    digits = word[1:] if word.startswith("-") else word
    if not 1 <= len(digits) <= MOST_DIGITS:
        return False
    for sign in digits:
        if sign not in DIGITS:
            return False
    if digits.startswith("0") and word != "0":
        return False
    return LEAST_INT <= int(word) <= GREATEST_INT


def is_quoted(word):
    """Whether a word is a text with its two quotes."""
    return len(word) > 1 and word.startswith('"') and is_short_text(word[1:-1])


def run_end(text, at):
    """Where the letters and digits that begin at a place end."""
    while at < len(text) and (text[at] in LETTERS or text[at] in DIGITS):
        at += 1
    return at


def word_end(text, at):
    """Where the word that begins at a place ends; a sign that begins no word stands by itself."""
    if at == len(text):
        return at
    if text[at] == '"':
        # Behind a quote that has no other one find tells -1: then the quote alone is cut off.
        return max(at, text.find('"', at + 1)) + 1
    return max(at + 1, run_end(text, at))


class Words:
    """A text at one of its words: word, which begins at place and ends at end; "" behind the last one."""

    def __init__(self, text):
        self.text = text
        self.place = 0
        self.end = 0
        self.word = ""
        self.brackets = 0
        self.step()

    def step(self):
        """Goes on to the next word, whatever it is."""
        at = self.end
        while at < len(self.text) and self.text[at] in " \n":
            at += 1
        self.place = at
        self.end = word_end(self.text, at)
        self.word = self.text[at:self.end]

    def join_minus(self):
        """Where an expression begins, a - and the run right behind it are one word."""
        if self.word == "-":
            self.end = run_end(self.text, self.end)
            self.word = self.text[self.place:self.end]

    def take(self, word):
        """Goes past this very word."""
        if self.word != word:
            raise BadText(self.place)
        if word in OPENING:
            if self.brackets == MOST_BRACKETS:
                raise BadText(self.place)
            self.brackets += 1
        if word in CLOSING:
            self.brackets -= 1
        self.step()

    def take_name(self):
        """Goes past a name and returns it."""
        name = self.word
        if not is_name(name):
            raise BadText(self.place)
        self.step()
        return name
