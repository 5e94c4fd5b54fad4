"""Texts read to the statements that they are the texts of."""

from figuretell.errors import NoText
from figuretell.statements import CHOOSING, COMPARING, JOINING, is_name, is_row_name

MOST_LETTERS = 1000
MOST_DEEP = 20
MOST_PARTS = 8
MOST_FACTOR = 20
MOST_NUMBER = 999999


def read(text):
    if not isinstance(text, str):
        raise NoText("this is no text")
    if len(text) > MOST_LETTERS:
        raise NoText(f"the text has more than {MOST_LETTERS} signs")
    reader = Reader(text)
    statement = reader.statement(MOST_DEEP)
    if reader.at < len(text):
        raise NoText("there is more behind the statement's end")
    return statement


class Reader:
    """Goes through a text; at is the place of the first sign that isn't read yet."""

    def __init__(self, text):
        self.text = text
        self.at = 0

    def takes(self, word):
        """Whether the word stands here; it is read then."""
        if not self.text.startswith(word, self.at):
            return False
        self.at = self.at + len(word)
        return True

    def need(self, word):
        if not self.takes(word):
            raise NoText(f"{word!r} is lacking")

    def run(self, first, last):
        """All the signs from the first to the last one that stand here side by side."""
        begin = self.at
        while self.at < len(self.text) and first <= self.text[self.at] <= last:
            self.at = self.at + 1
        return self.text[begin:self.at]

    def statement(self, deep):
        # Told here and not at the end, lest a text of many parentheses goes deeper than Python lets it.
        if deep < 0:
            raise NoText(f"the statement is more than {MOST_DEEP} deep")
        if self.takes("not "):
            return ("not", self.statement(deep - 1))
        if self.takes("("):
            return self.joined(deep)
        for kind in CHOOSING:
            if self.takes(kind + " "):
                return self.chosen(kind, deep)
        row = self.run("A", "Z")
        return self.compared() if row == "" else self.looked_up(row)

    def joined(self, deep):
        one = self.statement(deep - 1)
        for kind in JOINING:
            if self.takes(f" {kind} "):
                other = self.statement(deep - 1)
                self.need(")")
                return (kind, one, other)
        raise NoText("there is neither and nor or")

    def chosen(self, kind, deep):
        name = self.name()
        self.need(": ")
        return (kind, name, self.statement(deep - 1))

    def compared(self):
        one = self.added()
        for kind in COMPARING:
            if self.takes(f" {kind} "):
                return (kind, one, self.added())
        raise NoText("two sums aren't compared")

    def looked_up(self, row):
        one = self.place_of(row)
        self.need(" = ")
        other_row = self.run("A", "Z")
        if other_row == "":
            return ("is",) + one + (self.number(),)
        return ("like",) + one + self.place_of(other_row)

    def place_of(self, row):
        if not is_row_name(row):
            raise NoText("this is no row's name")
        self.need("[")
        added = self.added()
        self.need("]")
        return (row, added)

    def added(self):
        parts = [self.part()]
        while self.takes(" + "):
            parts.append(self.part())
        if len(parts) > MOST_PARTS:
            raise NoText(f"a sum has more than {MOST_PARTS} parts")
        return tuple(parts)

    def part(self):
        begin = self.at
        if self.run("0", "9") == "":
            return (1, self.name())
        self.at = begin
        number = self.number()
        if not self.takes("*"):
            return (number, "")
        # A factor of 1 isn't written.
        if not 2 <= number <= MOST_FACTOR:
            raise NoText(f"a written factor isn't from 2 to {MOST_FACTOR}")
        return (number, self.name())

    def number(self):
        digits = self.run("0", "9")
        if digits == "" or str(int(digits)) != digits:
            raise NoText("a number is lacking, or has noughts ahead")
        if int(digits) > MOST_NUMBER:
            raise NoText(f"a number is above {MOST_NUMBER}")
        return int(digits)

    def name(self):
        letters = self.run("a", "z")
        if not is_name(letters):
            raise NoText("this is no name")
        return letters
