"""Texts of modules, read."""

from turnedparts.errors import BadText
from turnedparts.lines import LINES
from turnedparts.parts import WITH_BLOCKS
from turnedparts.tokens import Cursor
from turnedparts.words import DEEPEST, MOST_STATEMENTS


def read_module(told):
    """The tuple of the statements of a text."""
    if not isinstance(told, str):
        raise BadText(0, 0)
    reader = Reader(told)
    if reader.cursor() is None:
        return ()
    return reader.block(0, 1)


class Reader:
    """Goes through the lines of a text."""

    def __init__(self, told):
        lines = told.split("\n")
        self.many_lines = len(lines)
        self.cursors = [Cursor(at, line) for at, line in enumerate(lines, 1) if is_kept(line)]
        self.at = 0
        self.many_statements = 0

    def cursor(self):
        """The line that is read next, or None behind the last one."""
        return self.cursors[self.at] if self.at < len(self.cursors) else None

    def misfit(self):
        """Raise BadText for what stands at the beginning of the next line."""
        cursor = self.cursor()
        if cursor is None:
            raise BadText(self.many_lines + 1, 1)
        cursor.misfit()

    def block(self, blanks, depth):
        """Read a block whose lines have so many blanks in front."""
        if self.blanks() != blanks or depth > DEEPEST:
            self.misfit()
        found = []
        while self.blanks() == blanks:
            found.append(self.statement(blanks, depth))
        if self.blanks() > blanks:
            self.misfit()
        return tuple(found)

    def blanks(self):
        """How many blanks stand in front of the next line, -1 behind the last one."""
        cursor = self.cursor()
        return -1 if cursor is None else len(cursor.line) - len(cursor.line.lstrip(" "))

    def statement(self, blanks, depth):
        """Read a statement with its blocks."""
        if self.many_statements >= MOST_STATEMENTS:
            self.misfit()
        self.many_statements += 1
        cursor = self.cursor()
        word = cursor.word() if cursor.kind() == "word" else ""
        if word in ("else", "except", "finally"):
            self.misfit()
        head = self.head(word if word in LINES else "")
        if word not in WITH_BLOCKS:
            return head
        block = self.block(blanks + 4, depth + 1)
        if word == "if":
            return (*head, block, self.rest("else", blanks, depth))
        if word == "try":
            return (*head, block, *self.behind_try(blanks, depth))
        return (*head, block)

    def is_at_word(self, word, blanks):
        return self.blanks() == blanks and self.cursor().is_at("word", word)

    def rest(self, word, blanks, depth):
        """Read a last block behind a word, if this stands on the next line."""
        if not self.is_at_word(word, blanks):
            return ()
        self.head(word)
        return self.block(blanks + 4, depth + 1)

    def head(self, word):
        """Read a line that begins with a word."""
        read_line = LINES[word]
        head = read_line(self.cursor())
        self.at += 1
        return head

    def behind_try(self, blanks, depth):
        """Read the handlers and the last block of a try."""
        handlers = []
        while self.is_at_word("except", blanks):
            head = self.head("except")
            handlers.append((*head, self.block(blanks + 4, depth + 1)))
        if not handlers and not self.is_at_word("finally", blanks):
            self.misfit()
        return tuple(handlers), self.rest("finally", blanks, depth)


def is_kept(line):
    told = line.lstrip(" ")
    return told != "" and not told.startswith("#")
