"""A line of a text, as words, texts and signs, read from left to right."""

from turnedparts.errors import BadText
from turnedparts.words import SIGNS, is_name, is_text


class Cursor:
    """Goes through the words, texts and signs of a line; an end stands behind them."""

    def __init__(self, number, line):
        self.number = number
        self.line = line
        self.rows = split_line(line)
        self.at = 0

    def kind(self):
        """What stands here: word, text, sign or end."""
        return self.rows[self.at][0]

    def word(self):
        """The word, text or sign that stands here."""
        return self.rows[self.at][1]

    def misfit(self):
        """Raise BadText for what stands here."""
        raise BadText(self.number, self.rows[self.at][2])

    def is_at(self, kind, told):
        """Whether a word or sign stands here."""
        return self.kind() == kind and self.word() == told

    def is_at_named(self):
        """Whether a name with = behind it stands here."""
        if self.kind() != "word" or not is_name(self.word()):
            return False
        return self.rows[self.at + 1][:2] == ("sign", "=")

    def take(self):
        """Go on; what stood here."""
        told = self.word()
        self.at += 1
        return told

    def skip(self, kind, told):
        """Go on, if a word or sign stands here; whether it does."""
        if not self.is_at(kind, told):
            return False
        self.at += 1
        return True

    def need(self, kind, told):
        """Go on behind a word or sign that must stand here."""
        if not self.skip(kind, told):
            self.misfit()

    def name(self, taken):
        """Go on behind a name that must stand here, and is none of those taken."""
        if self.kind() != "word" or not is_name(self.word()) or self.word() in taken:
            self.misfit()
        return self.take()

    def text(self):
        """Go on behind a text that must stand here."""
        if self.kind() != "text" or not is_text(self.word()):
            self.misfit()
        return self.take()

    def end(self):
        """See that nothing more stands on the line."""
        if self.kind() != "end":
            self.misfit()


def split_line(line):
    """The triples of a kind, a word, text or sign, and a column, with the end."""
    rows = []
    at = 0
    while at < len(line):
        if line[at] == " ":
            at += 1
            continue
        row = read_row(line, at)
        rows.append(row[:3])
        at = row[3]
    rows.append(("end", "", len(line) + 1))
    return rows


def read_row(line, at):
    """What stands at a place of a line, its column, and the place behind it."""
    if line[at] == '"' and line.find('"', at + 1) > at:
        close = line.find('"', at + 1)
        return ("text", line[at + 1:close], at + 1, close + 1)
    # A quote without a next one is a sign like any other, and fits nowhere.
    if line[at] not in SIGNS:
        return ("sign", line[at], at + 1, at + 1)
    rest = line[at:]
    length = len(rest) - len(rest.lstrip(SIGNS))
    return ("word", rest[:length], at + 1, at + length)
